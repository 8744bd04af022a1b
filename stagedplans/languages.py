"""Which histories are possible for two behaviours, or just for one of them."""

from stagedplans.behaviours import bits_for, prepared
from stagedplans.signals import all_letters


def both_told(number, one, other):
    """Return a behaviour, not None, for which the histories are possible that are so for two behaviours."""
    if one is not None and other is not None:
        return product_of(one, other)
    if one is None and other is None:
        return free_behaviour(number)
    return other if one is None else one


def free_behaviour(number):
    """Return a behaviour, not None, for which all histories are possible."""
    return (1, ((0, tuple([None for _ in range(number)]), 0),))


def product_of(one, other):
    """Return the behaviour that walks along edges of two behaviours at once."""
    pairs = [(0, 0)]
    places = {(0, 0): 0}
    edges = {}
    at = 0
    while at < len(pairs):
        node, twin = pairs[at]
        others = edges_from(other, twin)
        for partial, target in edges_from(one, node):
            for other_partial, other_target in others:
                common = agreed(partial, other_partial)
                if common is not None:
                    place = places.setdefault((target, other_target), len(pairs))
                    if place == len(pairs):
                        pairs.append((target, other_target))
                    edges[(at, common, place)] = True
        at += 1
    return (len(pairs), tuple(list(edges)))


def edges_from(behaviour, node):
    """Return the list of the tuples (partial letter, node) of the edges from a node."""
    return [(partial, target) for start, partial, target in behaviour[1] if start == node]


def agreed(partial, other):
    """Return the partial letter that just those letters fit that fit two of them, or None."""
    common = []
    for known, also in zip(partial, other):
        if known is None:
            common.append(also)
        elif also is None or also == known:
            common.append(known)
        else:
            return None
    return tuple(common)


def are_same(number, one, other):
    """Tell whether the same histories are possible for two behaviours.

    The edges that walks of one history can take next are put into one group for both, as
    Hopcroft and Karp do: what follows two of one group is the same if the rest is.
    """
    if one == other:
        return True
    letters = all_letters(number)
    first, fits, ends = told_edges(number, one, letters)
    other_first, other_fits, other_ends = told_edges(number, other, letters)
    parents = {}
    waiting = [(first, other_first)]
    while len(waiting) > 0:
        left, right = waiting.pop()
        root, other_root = root_in(parents, (True, left)), root_in(parents, (False, right))
        if root == other_root:
            continue
        parents[other_root] = root
        for bits, other_bits in zip(fits, other_fits):
            met, other_met = left & bits, right & other_bits
            if (met == 0) != (other_met == 0):
                return False
            if met > 0:
                waiting.append((edges_behind(ends, met), edges_behind(other_ends, other_met)))
    return True


def told_edges(number, behaviour, letters):
    """Return the edges that leave node 0, those that fit each letter, and the ends, as bits."""
    tables, outs, ends = prepared((free_behaviour(number) if behaviour is None else behaviour)[1])
    return outs.get(0, 0), [bits_for(tables, letter) for letter in letters], ends


def edges_behind(ends, bits):
    """Return the bits of the edges that leave the nodes to which some edges lead."""
    behind = 0
    for _, into, out in ends:
        if bits & into > 0:
            behind = behind | out
    return behind


def root_in(parents, value):
    """Return the value at which the way from a value to its parent, and so on, ends."""
    while value in parents:
        value = parents[value]
    return value
