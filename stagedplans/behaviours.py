"""Behaviours: which histories are possible."""

from stagedplans.checks import is_from, is_index
from stagedplans.errors import InvalidBehaviour, InvalidLetters, InvalidNumber
from stagedplans.searches import free_turns
from stagedplans.signals import BAD, NONE, are_letters, fitting_indexes

# With fewer letters it takes longer to prepare all edges than to look at each edge for each letter.
MANY_LETTERS = 6


def is_behaviour(number, value):
    """Tell whether any value is a behaviour of a number of signals."""
    check_signal_number(number)
    return is_behaviour_of(value, number)


def is_possible(number, behaviour, letters):
    """Tell whether a history is possible for a behaviour."""
    check_arguments(number, behaviour, letters)
    return can_walk(behaviour, letters)


def nodes_after(number, behaviour, letters):
    """Return the ascending list of the nodes at which walks of a history can end."""
    check_arguments(number, behaviour, letters)
    nodes, _ = walked(behaviour, letters, [0])
    return nodes


def impossible_from(number, behaviour, letters):
    """Return the length of the shortest beginning that is not possible, or None."""
    check_arguments(number, behaviour, letters)
    nodes, many = walked(behaviour, letters, [0])
    return many if len(nodes) == 0 else None


def check_arguments(number, behaviour, letters):
    """Raise an error for the first wrong one of these arguments."""
    check_signal_number(number)
    check_behaviour(number, behaviour)
    if not are_letters(letters, number):
        raise InvalidLetters()


def check_signal_number(number):
    """Raise an error for what is no number of signals."""
    if not is_from(number, 1):
        raise InvalidNumber()


def check_behaviour(number, behaviour):
    """Raise an error for what is neither None nor a behaviour of a number of signals."""
    if behaviour is not None and not is_behaviour_of(behaviour, number):
        raise InvalidBehaviour()


def is_behaviour_of(value, number):
    """Tell whether any value is a behaviour of a number of signals, without checks of the number."""
    if not isinstance(value, tuple) or len(value) != 2:
        return False
    nodes, edges = value
    return is_from(nodes, 1) and isinstance(edges, tuple) and are_edges(edges, nodes, number)


def are_edges(edges, nodes, number):
    """Tell whether all of some values are edges between a number of nodes."""
    for edge in edges:
        if not isinstance(edge, tuple) or len(edge) != 3:
            return False
        node, partial, target = edge
        if not isinstance(node, int) or not 0 <= node < nodes or node is True or node is False:
            return False
        if not isinstance(target, int) or not 0 <= target < nodes or target is True or target is False:
            return False
        if not isinstance(partial, tuple) or len(partial) != number:
            return False
        # Written out as in is_partial, since each question asks this of each grade of each edge.
        for grade in partial:
            if grade is None:
                continue
            if not isinstance(grade, int) or not NONE <= grade <= BAD or grade is True or grade is False:
                return False
    return True


def is_node(value, behaviour):
    """Tell whether any value is a node of a behaviour or of None."""
    return is_index(value, 1 if behaviour is None else behaviour[0])


def can_walk(behaviour, letters):
    """Tell whether there is a walk of some letters, without checks."""
    nodes, _ = walked(behaviour, letters, [0])
    return len(nodes) > 0


def walked(behaviour, letters, nodes):
    """Return the ascending list of the nodes at which walks of letters from some nodes can end.

    Behind it stands the number of the letters that were read: all, or those up to the first
    one with which no walk is left.
    """
    if behaviour is None:
        return nodes, len(letters)
    if len(letters) >= MANY_LETTERS:
        return swept(behaviour[1], letters, nodes)
    for at, letter in enumerate(letters):
        nodes = nodes_by(behaviour[1], nodes, letter)
        if len(nodes) == 0:
            return nodes, at + 1
    return nodes, len(letters)


def nodes_by(edges, nodes, letter):
    """Return the ascending list of the nodes to which edges from some nodes lead by a letter."""
    ends = []
    for node, partial, target in edges:
        if node in nodes:
            for grade, known in zip(letter, partial):
                if known is not None and known != grade:
                    break
            else:
                ends.append(target)
    return sorted(set(ends)) if len(ends) > 1 else ends


def swept(edges, letters, nodes):
    """Return what walked returns, with all edges prepared for many letters."""
    tables, outs, ends = prepared(edges)
    known = {}
    behind = {}
    left = sum([outs.get(node, 0) for node in nodes])
    for at, letter in enumerate(letters):
        if letter not in known:
            known[letter] = bits_for(tables, letter)
        left = left & known[letter]
        if left not in behind:
            targets = []
            further = 0
            for target, into, out in ends:
                if left & into > 0:
                    targets.append(target)
                    further = further | out
            behind[left] = (targets, further)
        nodes, left = behind[left]
        if len(nodes) == 0:
            return nodes, at + 1
    return nodes, len(letters)


def prepared(edges):
    """Return a tuple (tables, outs, ends) with which the edges that fit a letter are found at once.

    Each edge has a bit. The tables tell the edges that fit the grades, as fitting_bits does, and
    the outs are a dict from nodes to the edges that leave them. The ends are the ascending list
    of the tuples of each node, the edges that lead to it, and those that leave it.
    """
    bits = [1 << at for at in range(len(edges))]
    outs = {}
    intos = {}
    for (node, _, target), bit in zip(edges, bits):
        outs[node] = outs.get(node, 0) | bit
        intos[target] = intos.get(target, 0) | bit
    ends = [(target, intos[target], outs.get(target, 0)) for target in sorted(list(intos))]
    return fitting_bits([partial for _, partial, _ in edges], bits), outs, ends


def fitting_bits(partials, bits):
    """Return the list, by signals, of the tuples, by grades, of the bits of the partial letters with it or None."""
    tables = []
    for column in zip(*partials):
        free, none, good, bad = 0, 0, 0, 0
        for known, bit in zip(column, bits):
            if known is None:
                free = free | bit
            elif known == NONE:
                none = none | bit
            elif known == BAD:
                bad = bad | bit
            else:
                good = good | bit
        tables.append((none | free, good | free, bad | free))
    return tables


def bits_for(tables, letter):
    """Return the bits of the edges that a letter fits."""
    bits = -1
    for table, grade in zip(tables, letter):
        bits = bits & table[grade]
    return bits


def turns_of(behaviour, many):
    """Return the turns of a behaviour or of None for all of so many letters, each list ascending."""
    if behaviour is None:
        return free_turns(many)
    nodes = {0: True}
    for node, _, target in behaviour[1]:
        nodes[node] = True
        nodes[target] = True
    return {node: turns_from(behaviour, node, many) for node in nodes}


def turns_from(behaviour, node, many):
    """Return the list, by letters, of the ascending lists of the nodes to which an edge from a node leads."""
    rows = [[] for _ in range(many)]
    for start, partial, target in behaviour[1]:
        if start == node:
            for letter in fitting_indexes(partial):
                rows[letter].append(target)
    return [sorted(set(row)) for row in rows]
