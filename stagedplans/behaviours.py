"""Behaviours: which histories are possible."""

from stagedplans.checks import is_from, is_index, is_tuple_of
from stagedplans.errors import InvalidBehaviour, InvalidLetters, InvalidNumber
from stagedplans.searches import free_turns
from stagedplans.signals import are_letters, fits, fitting_indexes, is_partial


def is_behaviour(number, value):
    """Tell whether any value is a behaviour of a number of signals."""
    check_signal_number(number)
    return is_behaviour_of(value, number)


def is_possible(number, behaviour, letters):
    """Tell whether a history is possible for a behaviour."""
    return len(nodes_after(number, behaviour, letters)) > 0


def nodes_after(number, behaviour, letters):
    """Return the ascending list of the nodes at which walks of a history can end."""
    check_arguments(number, behaviour, letters)
    return node_rows(behaviour, letters)[-1]


def impossible_from(number, behaviour, letters):
    """Return the length of the shortest beginning that is not possible, or None."""
    check_arguments(number, behaviour, letters)
    rows = node_rows(behaviour, letters)
    return None if len(rows[-1]) > 0 else len(rows) - 1


def check_arguments(number, behaviour, letters):
    """Raise an error for the first wrong one of these arguments."""
    check_signal_number(number)
    check_behaviour(number, behaviour)
    if not are_letters(letters, number):
        raise InvalidLetters()


def check_signal_number(number):
    """Raise an error for what is no number of signals."""
    if not is_from(number, 1):
        raise InvalidNumber()


def check_behaviour(number, behaviour):
    """Raise an error for what is neither None nor a behaviour of a number of signals."""
    if behaviour is not None and not is_behaviour_of(behaviour, number):
        raise InvalidBehaviour()


def is_behaviour_of(value, number):
    """Tell whether any value is a behaviour of a number of signals, without checks of the number."""
    if not is_tuple_of(value, 2):
        return False
    nodes, edges = value
    if not is_from(nodes, 1) or not isinstance(edges, tuple):
        return False
    return all([is_edge(edge, nodes, number) for edge in edges])


def is_edge(value, nodes, number):
    """Tell whether any value is an edge between some of a number of nodes."""
    if not is_tuple_of(value, 3):
        return False
    node, partial, target = value
    return is_index(node, nodes) and is_partial(partial, number) and is_index(target, nodes)


def is_node(value, behaviour):
    """Tell whether any value is a node of a behaviour or of None."""
    return is_index(value, 1 if behaviour is None else behaviour[0])


def node_rows(behaviour, letters):
    """Return the list of the lists of nodes behind each beginning, up to the first empty one."""
    if behaviour is None:
        return [[0] for _ in range(len(letters) + 1)]
    rows = [[0]]
    fitting = {}
    for letter in letters:
        if letter not in fitting:
            fitting[letter] = [(node, target) for node, partial, target in behaviour[1] if fits(letter, partial)]
        nodes = rows[-1]
        rows.append(sorted(set([target for node, target in fitting[letter] if node in nodes])))
        if len(rows[-1]) == 0:
            return rows
    return rows


def turns_of(behaviour, many):
    """Return the turns of a behaviour or of None for all of so many letters, each list ascending."""
    if behaviour is None:
        return free_turns(many)
    nodes = {0: True}
    for node, _, target in behaviour[1]:
        nodes[node] = True
        nodes[target] = True
    return {node: turns_from(behaviour, node, many) for node in nodes}


def turns_from(behaviour, node, many):
    """Return the list, by letters, of the ascending lists of the nodes to which an edge from a node leads."""
    rows = [[] for _ in range(many)]
    for start, partial, target in behaviour[1]:
        if start == node:
            for letter in fitting_indexes(partial):
                rows[letter].append(target)
    return [sorted(set(row)) for row in rows]
