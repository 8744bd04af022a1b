"""Which histories are possible for two behaviours, or just for one of them."""

from stagedplans.behaviours import turns_of
from stagedplans.searches import nodes_behind
from stagedplans.signals import all_letters


def both_told(number, one, other):
    """Return a behaviour, not None, for which the histories are possible that are so for two behaviours."""
    if one is not None and other is not None:
        return product_of(one, other)
    if one is None and other is None:
        return (1, ((0, tuple([None for _ in range(number)]), 0),))
    return other if one is None else one


def product_of(one, other):
    """Return the behaviour that walks along edges of two behaviours at once."""
    pairs = [(0, 0)]
    places = {(0, 0): 0}
    edges = {}
    at = 0
    while at < len(pairs):
        node, twin = pairs[at]
        for partial, target in edges_from(one, node):
            for other_partial, other_target in edges_from(other, twin):
                if not can_agree(partial, other_partial):
                    continue
                place = places.setdefault((target, other_target), len(pairs))
                if place == len(pairs):
                    pairs.append((target, other_target))
                edges[(at, agreed(partial, other_partial), place)] = True
        at += 1
    return (len(pairs), tuple(list(edges)))


def edges_from(behaviour, node):
    """Return the list of the tuples (partial letter, node) of the edges from a node."""
    return [(partial, target) for start, partial, target in behaviour[1] if start == node]


def can_agree(partial, other):
    """Tell whether some letter fits two partial letters."""
    for known, also in zip(partial, other):
        if known is not None and also is not None and known != also:
            return False
    return True


def agreed(partial, other):
    """Return the partial letter that just those letters fit that fit two partial letters."""
    return tuple([also if known is None else known for known, also in zip(partial, other)])


def are_same(number, one, other):
    """Tell whether the same histories are possible for two behaviours.

    The nodes at which walks of one history can end are put into one group for both, as Hopcroft
    and Karp do, so what follows them is looked at once. A history is possible if there are any.
    """
    if one == other:
        return True
    many = len(all_letters(number))
    turns, other_turns = turns_of(one, many), turns_of(other, many)
    parents = {}
    waiting = [((0,), (0,))]
    while len(waiting) > 0:
        nodes, others = waiting.pop()
        if (len(nodes) == 0) != (len(others) == 0):
            return False
        root, other_root = root_in(parents, (True, nodes)), root_in(parents, (False, others))
        if root != other_root:
            parents[other_root] = root
            for letter in range(many):
                behind = tuple(nodes_behind(turns, nodes, letter))
                waiting.append((behind, tuple(nodes_behind(other_turns, others, letter))))
    return True


def root_in(parents, value):
    """Return the value at which the way from a value to its parent, and so on, ends."""
    while value in parents:
        value = parents[value]
    return value
