"""Machines of outputs, plans that are alike, and the certificates of it."""

from stagedplans.behaviours import check_behaviour, turns_of
from stagedplans.checks import is_index, is_integer, is_tuple_of, is_within
from stagedplans.errors import InvalidLetters, InvalidMachine, InvalidNumber, InvalidPairs
from stagedplans.likeness import are_like, output_of, outputs_of
from stagedplans.periods import first_state, next_state, state_graph
from stagedplans.plans import check_alike_in_numbers, check_plan
from stagedplans.searches import first_history
from stagedplans.signals import all_letters, are_letters, letter_index
from stagedplans.tables import are_states, is_ascending
from stagedplans.walks import twin_graph

MOST_SIGNALS = 3


def machine(plan):
    """Return the list with the fewest tuples (output, followers) that has the outputs of a plan."""
    check_plan(plan)
    listed, followers = state_graph(plan)
    outputs = outputs_of(plan, listed)
    kinds = kinds_of(outputs, followers)
    entries = []
    for kind, output, behind in zip(kinds, outputs, followers):
        # The kinds are numbered as they first appear, and so are the states.
        if kind == len(entries):
            entries.append((output, tuple([kinds[at] for at in behind])))
    return entries


def machine_output(number, machine, letters):
    """Return the output in the entry of a machine to which a history leads."""
    if not is_within(number, 1, MOST_SIGNALS):
        raise InvalidNumber()
    if not is_machine(machine, len(all_letters(number))):
        raise InvalidMachine()
    if not are_letters(letters, number):
        raise InvalidLetters()
    at = 0
    for letter in letters:
        at = machine[at][1][letter_index(letter)]
    return machine[at][0]


def are_alike(one, other):
    """Tell whether two plans are alike."""
    check_plans(one, other)
    return are_like(one, other)


def unlike_history(one, other, behaviour=None):
    """Return the first of the shortest possible histories behind which the outputs differ, or None."""
    check_plans(one, other)
    check_behaviour(len(one[1]), behaviour)
    ones, one_followers = state_graph(one)
    others, other_followers = state_graph(other)
    twins, followers = twin_graph(one_followers, other_followers)
    outputs, other_outputs = outputs_of(one, ones), outputs_of(other, others)
    letters = all_letters(len(one[1]))
    differ = [outputs[at] != other_outputs[other_at] for at, other_at in twins]
    found = first_history(followers, turns_of(behaviour, len(letters)), differ)
    return None if found is None else [letters[letter] for letter in found]


def pairing(one, other):
    """Return the ascending list of the tuples of states to which one history leads, or None."""
    check_plans(one, other)
    pairs = like_pairs(one, other)
    return None if pairs is None else sorted(pairs)


def pairing_fault(one, other, pairs):
    """Return the tuple that tells the first fault of a list of pairs of states, or None."""
    check_plans(one, other)
    if not are_pairs(pairs, (one, other)):
        raise InvalidPairs()
    known = {pair: True for pair in pairs}
    if (first_state(one), first_state(other)) not in known:
        return ("begin", None)
    letters = all_letters(len(one[1]))
    for at, (state, twin) in enumerate(pairs):
        if output_of(one, state) != output_of(other, twin):
            return ("output", at)
        behind = [(next_state(one, state, letter), next_state(other, twin, letter)) for letter in letters]
        if not all([pair in known for pair in behind]):
            return ("missing", at)
    return None


def check_plans(one, other):
    """Raise an error for what are no plans with the same numbers of regions and of signals."""
    check_plan(one)
    check_plan(other)
    check_alike_in_numbers(one, other)


def are_pairs(value, plans):
    """Tell whether any value is a strictly ascending list of tuples of a state of each plan."""
    return isinstance(value, list) and all([are_states(pair, plans) for pair in value]) and is_ascending(value)


def is_machine(value, many):
    """Tell whether any value is a machine for so many letters, whatever its outputs are."""
    if not isinstance(value, list) or len(value) == 0:
        return False
    return all([is_entry(entry, len(value), many) for entry in value])


def is_entry(value, entries, many):
    """Tell whether any value is one of a number of entries for so many letters."""
    if not is_tuple_of(value, 2) or not is_output(value[0]) or not is_tuple_of(value[1], many):
        return False
    return all([is_index(at, entries) for at in value[1]])


def is_output(value):
    """Tell whether any value is a tuple of a string and a tuple of integers."""
    if not is_tuple_of(value, 2) or not isinstance(value[0], str) or not isinstance(value[1], tuple):
        return False
    return all([is_integer(count) for count in value[1]])


def kinds_of(outputs, followers):
    """Return the list of the kinds of states, numbered as they first appear.

    Two states have one kind if the outputs from them on are the same behind all letters.
    """
    kinds = numbered(outputs)
    many = 0
    while max(kinds) + 1 > many:
        many = max(kinds) + 1
        kinds = numbered([
            (kind, tuple([kinds[at] for at in behind]))
            for kind, behind in zip(kinds, followers)
        ])
    return kinds


def numbered(values):
    """Return the list of the numbers of values, as each of them first appears."""
    numbers = {}
    for value in values:
        if value not in numbers:
            numbers[value] = len(numbers)
    return [numbers[value] for value in values]


def like_pairs(one, other):
    """Return the list of the tuples of states to which one history leads, or None for unlike plans."""
    ones, one_followers = state_graph(one)
    others, other_followers = state_graph(other)
    twins, _ = twin_graph(one_followers, other_followers)
    outputs, other_outputs = outputs_of(one, ones), outputs_of(other, others)
    for at, other_at in twins:
        if outputs[at] != other_outputs[other_at]:
            return None
    return [(ones[at], others[other_at]) for at, other_at in twins]
