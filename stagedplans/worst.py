"""The greatest harm of possible histories, and the certificates of it."""

from stagedplans.behaviours import check_behaviour, turns_of
from stagedplans.plans import check_plan
from stagedplans.searches import nodes_behind
from stagedplans.signals import letter_index
from stagedplans.states import check_letters
from stagedplans.tables import AS_IT_IS, check_table, table_fault
from stagedplans.walks import greatest_gain, greatest_history, growing_ring, plan_field, worth_table


def greatest_harm(plan, behaviour=None):
    """Return the greatest harm of a possible history, or None if there is no upper bound."""
    check_both(plan, behaviour)
    return greatest_gain(plan_field(plan), behaviour)


def harm_history(plan, behaviour=None):
    """Return the first of the shortest possible histories with the greatest harm, or None."""
    check_both(plan, behaviour)
    return greatest_history(plan_field(plan), behaviour)


def harm_ring(plan, behaviour=None):
    """Return a tuple (history, ring) with which the harm grows without an end, or None."""
    check_both(plan, behaviour)
    return growing_ring(plan_field(plan), behaviour)


def is_harm_ring(plan, history, ring, behaviour=None):
    """Tell whether two lists are a history and a ring with which the harm grows without an end."""
    check_plan(plan)
    check_letters(plan, history)
    check_letters(plan, ring)
    check_behaviour(len(plan[1]), behaviour)
    field = plan_field(plan)
    start = [letter_index(letter) for letter in history]
    turn = [letter_index(letter) for letter in ring]
    turns = turns_of(behaviour, len(field[0]))
    return is_possible_ring(turns, start, turn) and is_growing_ring(field, start, turn)


def harm_table(plan, behaviour=None):
    """Return the ascending list of the tuples (state, node, harm), or None."""
    check_both(plan, behaviour)
    return worth_table(plan_field(plan), behaviour)


def harm_table_fault(plan, table, behaviour=None):
    """Return the tuple that tells the first fault of a table, or None."""
    check_both(plan, behaviour)
    check_table((plan,), table, behaviour)
    return table_fault((plan,), table, behaviour, AS_IT_IS)


def check_both(plan, behaviour):
    """Raise an error for what is no plan, or no behaviour for its signals."""
    check_plan(plan)
    check_behaviour(len(plan[1]), behaviour)


def is_possible_ring(turns, history, ring):
    """Tell whether a history with any number of rings behind it is possible."""
    nodes = [0]
    for letter in history:
        nodes = nodes_behind(turns, nodes, letter)
    met = {}
    # What is possible from a set of nodes on does not depend on how often the ring was gone.
    while tuple(nodes) not in met:
        met[tuple(nodes)] = True
        for letter in ring:
            nodes = nodes_behind(turns, nodes, letter)
    return len(nodes) > 0


def is_growing_ring(field, history, ring):
    """Tell whether a ring adds harm behind a history with any number of rings."""
    _, _, followers, gains = field
    at = 0
    for letter in history:
        at = followers[at][letter]
    met = {}
    while at not in met:
        met[at] = True
        harm = 0
        for letter in ring:
            harm = harm + gains[at][letter]
            at = followers[at][letter]
        if harm == 0:
            return False
    return True
