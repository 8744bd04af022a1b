"""Tables of what is gained from pairs on, judged as certificates.

The rows of a table are tuples of one state for each of some plans, a node, and a number. With
one plan, a period gains its harm; with two plans, its gap.
"""

from stagedplans.behaviours import is_node, turns_of
from stagedplans.checks import is_from, is_tuple_of
from stagedplans.errors import InvalidTable
from stagedplans.harm import harms_in
from stagedplans.periods import first_state, next_state
from stagedplans.signals import all_letters
from stagedplans.states import is_state_of

# With this rate (top, bottom), harm and gaps count as they are.
AS_IT_IS = (0, 1)


def check_table(plans, table, behaviour):
    """Raise an error for what is no strictly ascending list of rows."""
    if not isinstance(table, list) or not all([is_row_of(row, plans, behaviour) for row in table]):
        raise InvalidTable()
    if not is_ascending([row[:-1] for row in table]):
        raise InvalidTable()


def is_row_of(value, plans, behaviour):
    """Tell whether any value is a row of a table for some plans and a behaviour."""
    if not is_tuple_of(value, len(plans) + 2):
        return False
    if not is_node(value[-2], behaviour) or not is_from(value[-1], 0):
        return False
    return are_states(value[:-2], plans)


def are_states(value, plans):
    """Tell whether any value is a tuple of one state of each of some plans."""
    return is_tuple_of(value, len(plans)) and all([is_state_of(state, plan) for state, plan in zip(value, plans)])


def is_ascending(values):
    """Tell whether each value but the first is greater than the one ahead of it."""
    return all([one < other for one, other in zip(values, values[1:])])


def table_fault(plans, table, behaviour, rate):
    """Return the tuple that tells the first fault of a table, or None.

    With a rate (top, bottom), a period gains bottom times its harm or gap, less top.
    """
    numbers = {row[:-1]: row[-1] for row in table}
    first = tuple([first_state(plan) for plan in plans])
    if (*first, 0) not in numbers:
        return ("begin", None)
    letters = all_letters(len(plans[0][1]))
    turns = turns_of(behaviour, len(letters))
    known = {}
    for at, row in enumerate(table):
        spot = row[:-2]
        if spot not in known:
            known[spot] = periods_behind(plans, spot, letters, rate)
        word = row_fault(row, known[spot], turns, numbers)
        if word is not None:
            return (word, at)
    return None


def periods_behind(plans, spot, letters, rate):
    """Return the list, by letters, of the tuples of the spot behind a period and its gain."""
    top, bottom = rate
    behind = [tuple([next_state(plan, state, letter) for plan, state in zip(plans, spot)]) for letter in letters]
    gains = harms_in(plans[0], spot[0])
    for plan, state in zip(plans[1:], spot[1:]):
        gains = [gain - harm for gain, harm in zip(gains, harms_in(plan, state))]
    return [(states, bottom * gain - top) for states, gain in zip(behind, gains)]


def row_fault(row, periods, turns, numbers):
    """Return the first of the words that apply to a row, or None."""
    low = False
    for (behind, gain), nodes in zip(periods, turns.get(row[-2], [])):
        for node in nodes:
            pair = (*behind, node)
            if pair not in numbers:
                return "missing"
            if row[-1] < gain + numbers[pair]:
                low = True
    return "low" if low else None
