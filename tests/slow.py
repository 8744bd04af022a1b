"""Slow and plain searches over histories, word by word as the document tells them."""

import itertools
import random

from stagedplans.harm import harm_of
from stagedplans.states import begin, counts, step
from tests.helper import letters_of


def fits(letter, partial):
    return all(known is None or known == grade for known, grade in zip(partial, letter))


def nodes_of(behaviour, letters):
    """Return the set of the nodes at which a walk can end, one walk after the other."""
    if behaviour is None:
        return {0}
    if not letters:
        return {0}
    before = nodes_of(behaviour, letters[:-1])
    return {end for start, partial, end in behaviour[1] if start in before and fits(letters[-1], partial)}


def targets_of(behaviour, node, letter):
    if behaviour is None:
        return {0}
    return {end for start, partial, end in behaviour[1] if start == node and fits(letter, partial)}


def possible_histories(number, most, behaviour=None):
    """Yield all possible histories of at most so many periods, the shorter and then the lesser ones first."""
    for periods in range(most + 1):
        for letters in itertools.product(letters_of(number), repeat=periods):
            if nodes_of(behaviour, list(letters)):
                yield list(letters)


def filled(number, partials):
    """Return all histories that fit, ascending."""
    return [
        list(letters)
        for letters in itertools.product(letters_of(number), repeat=len(partials))
        if all(fits(letter, partial) for letter, partial in zip(letters, partials))
    ]


def harm_in(plan, state, letter):
    if state[0] != "open":
        return 0
    due = counts(plan, state)
    return sum(price * due[region] for (region, _, _, price), grade in zip(plan[1], letter) if grade == 2)


def gain_in(plans, states, letter):
    """Return the harm of a period with one plan, or its gap with two."""
    harms = [harm_in(plan, state, letter) for plan, state in zip(plans, states)]
    return harms[0] - sum(harms[1:])


def followers(plans, key, behaviour):
    """Return the list of the tuples (key, letter, gain) that follow a tuple of states and a node."""
    rows = []
    for letter in letters_of(len(plans[0][1])):
        behind = tuple(step(plan, state, letter) for plan, state in zip(plans, key))
        gain = gain_in(plans, key, letter)
        for target in sorted(targets_of(behaviour, key[-1], letter)):
            rows.append(((*behind, target), letter, gain))
    return rows


def first_key(plans):
    return (*[begin(plan) for plan in plans], 0)


def all_keys(plans, behaviour):
    """Return a dict of all tuples of states and a node to which one walk leads, with their followers."""
    found = {}
    waiting = [first_key(plans)]
    while waiting:
        key = waiting.pop()
        if key not in found:
            found[key] = followers(plans, key, behaviour)
            waiting.extend(behind for behind, _, _ in found[key])
    return found


def best_worths(plans, behaviour, top=0, bottom=1):
    """Return a dict of the greatest gain from each tuple on, or None if there is none.

    With each turn the walks are a period longer. If some of them still get better with as
    many periods as there are tuples, they go around and never end to.
    """
    keys = all_keys(plans, behaviour)
    worth = {key: 0 for key in keys}
    for _ in range(len(keys) + 1):
        longer = {
            key: max([0] + [bottom * gain - top + worth[behind] for behind, _, gain in rows])
            for key, rows in keys.items()
        }
        if longer == worth:
            return worth
        worth = longer
    return None


def table_of(worth):
    return None if worth is None else sorted((*key, most) for key, most in worth.items())


def judged(plans, table, behaviour, top=0, bottom=1):
    """Return the first fault of a table, as point [19] tells it."""
    numbers = {row[:-1]: row[-1] for row in table}
    if first_key(plans) not in numbers:
        return ("begin", None)
    for at, row in enumerate(table):
        rows = followers(plans, row[:-1], behaviour)
        if any(behind not in numbers for behind, _, _ in rows):
            return ("missing", at)
        if any(row[-1] < bottom * gain - top + numbers[behind] for behind, _, gain in rows):
            return ("low", at)
    return None


def gap_of(one, other, letters):
    return harm_of(one, letters) - harm_of(other, letters)


def some_behaviours(seed, many, number, nodes=3, edges=8):
    """Return behaviours that always are the same for a seed, and None as the first one."""
    source = random.Random(seed)
    return [None] + [some_behaviour(source, number, nodes, edges) for _ in range(many)]


def some_behaviour(source, number, nodes, edges):
    most = source.randint(1, nodes)
    return (most, tuple(
        (source.randrange(most), tuple(source.choice((None, None, 0, 1, 2)) for _ in range(number)), source.randrange(most))
        for _ in range(source.randint(0, edges))
    ))


def grows_always(plans, history, ring, behaviour, times=60):
    """Tell whether a history with 0 to so many rings is possible, and gains with each ring."""
    states = tuple(begin(plan) for plan in plans)
    nodes = {0}
    for turn in range(times + 1):
        gain = 0
        for letter in history if turn == 0 else ring:
            gain += gain_in(plans, states, letter)
            states = tuple(step(plan, state, letter) for plan, state in zip(plans, states))
            nodes = {end for node in nodes for end in targets_of(behaviour, node, letter)}
        if not nodes or (turn > 0 and gain <= 0):
            return False
    return True


def first_best(plans, behaviour, most):
    """Return the greatest gain of the possible histories of at most so many periods, and the first one with it."""
    best, found = 0, []
    rows = [([], tuple(begin(plan) for plan in plans), {0}, 0)]
    for _ in range(most):
        longer = []
        for letters, states, nodes, gain in rows:
            for letter in letters_of(len(plans[0][1])):
                ends = {end for node in nodes for end in targets_of(behaviour, node, letter)}
                if ends:
                    behind = tuple(step(plan, state, letter) for plan, state in zip(plans, states))
                    longer.append(([*letters, letter], behind, ends, gain + gain_in(plans, states, letter)))
        rows = longer
        for letters, _, _, gain in rows:
            if gain > best:
                best, found = gain, letters
    return best, found


def changed_tables(table):
    """Yield tables like a right one: with a row left out, with lesser and greater numbers."""
    for at, row in enumerate(table):
        yield table[:at] + table[at + 1:]
        yield table[:at] + [(*row[:-1], row[-1] + 1)] + table[at + 1:]
        if row[-1] > 0:
            yield table[:at] + [(*row[:-1], row[-1] - 1)] + table[at + 1:]
    yield []
    yield table[:1]
    yield table[-1:]
    yield [(*row[:-1], 0) for row in table]
    yield [(*row[:-1], row[-1] + 10 ** 99) for row in table]
