"""Which histories explain the open counts that were seen.

Within this file a state stands as its index in a list of states. The rows are the list, by
periods, of dicts from the states behind all histories that explain what was seen so far to how
many such histories there are. The states of a row stand in the order of the least histories
that lead to them; the ways are the list, by periods, of dicts from the states to the last
period of these: a tuple of the state ahead of it and the letter. Both end with the first row
that is empty.
"""

from stagedplans.checks import are_integers
from stagedplans.errors import InvalidSeen
from stagedplans.periods import counts_in, first_state, frame_of, next_states
from stagedplans.plans import check_plan
from stagedplans.signals import all_letters


def explaining(plan, seen):
    """Return the least history that explains what was seen, or None."""
    check_both(plan, seen)
    _, rows, ways = rows_of(plan, seen)
    if len(rows[-1]) == 0:
        return None
    state = list(rows[-1])[0]
    history = []
    for way in ways[::-1]:
        state, letter = way[state]
        history.append(letter)
    return history[::-1]


def count_explaining(plan, seen):
    """Return the number of all histories that explain what was seen."""
    check_both(plan, seen)
    _, rows, _ = rows_of(plan, seen)
    return sum(list(rows[-1].values()))


def unexplained(plan, seen):
    """Return the least index up to which no history explains what was seen, or None."""
    check_both(plan, seen)
    _, rows, _ = rows_of(plan, seen)
    return None if len(rows[-1]) > 0 else len(rows) - 2


def states_seen(plan, seen):
    """Return the ascending list of the states behind all histories that explain what was seen."""
    check_both(plan, seen)
    listed, rows, _ = rows_of(plan, seen)
    return sorted([listed[state] for state in rows[-1]])


def next_counts(plan, seen):
    """Return the ascending list of the tuples of counts that can be seen next."""
    check_both(plan, seen)
    listed, rows, _ = rows_of(plan, seen)
    letters = all_letters(len(plan[1]))
    behind = [end for state in rows[-1] for end in next_states(plan, listed[state], letters)]
    return sorted(set(list(counts_by_frame(plan, behind).values())))


def check_both(plan, seen):
    """Raise an error for what is no plan, or no list of tuples of counts for its regions."""
    check_plan(plan)
    if not isinstance(seen, list) or not all([are_integers(told, len(plan[0])) for told in seen]):
        raise InvalidSeen()


def rows_of(plan, seen):
    """Return the list of the states that are met, the rows, and the ways for what was seen."""
    letters = all_letters(len(plan[1]))
    listed = [first_state(plan)]
    places = {listed[0]: 0}
    rows = [{0: 1}]
    ways = []
    known = {}
    for told in seen:
        row = {}
        way = {}
        for at, many in rows[-1].items():
            if (at, told) not in known:
                ends = []
                fitting = fitting_periods(plan, listed[at], letters, told)
                for letter, state in fitting:
                    place = places.setdefault(state, len(listed))
                    if place == len(listed):
                        listed.append(state)
                    ends.append((letter, place))
                known[(at, told)] = ends
            for letter, place in known[(at, told)]:
                if place in row:
                    row[place] = row[place] + many
                else:
                    row[place] = many
                    way[place] = (at, letter)
        rows.append(row)
        ways.append(way)
        if len(row) == 0:
            break
    return listed, rows, ways


def fitting_periods(plan, state, letters, told):
    """Return the list of the tuples (letter, state behind it) with the counts that are told."""
    behind = next_states(plan, state, letters)
    shown = counts_by_frame(plan, behind)
    return [(letter, end) for letter, end in zip(letters, behind) if shown[frame_of(end)] == told]


def counts_by_frame(plan, listed):
    """Return the dict from the frames of some states to the tuples of their counts."""
    shown = {}
    for state in listed:
        frame = frame_of(state)
        if frame not in shown:
            shown[frame] = tuple(counts_in(plan, state))
    return shown
