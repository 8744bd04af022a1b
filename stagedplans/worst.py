"""The greatest harm of possible histories, and the certificates of it."""

from stagedplans.behaviours import check_behaviour, walked
from stagedplans.harm import harm_along
from stagedplans.periods import last_state, states_along
from stagedplans.plans import check_plan
from stagedplans.states import check_letters
from stagedplans.tables import AS_IT_IS, check_table, table_fault
from stagedplans.walks import greatest_gain, greatest_history, growing_ring, plan_field, worth_table


def greatest_harm(plan, behaviour=None):
    """Return the greatest harm of a possible history, or None if there is no upper bound."""
    check_both(plan, behaviour)
    return greatest_gain(plan_field(plan), behaviour)


def harm_history(plan, behaviour=None):
    """Return the first of the shortest possible histories with the greatest harm, or None."""
    check_both(plan, behaviour)
    return greatest_history(plan_field(plan), behaviour)


def harm_ring(plan, behaviour=None):
    """Return a tuple (history, ring) with which the harm grows without an end, or None."""
    check_both(plan, behaviour)
    return growing_ring(plan_field(plan), behaviour)


def is_harm_ring(plan, history, ring, behaviour=None):
    """Tell whether two lists are a history and a ring with which the harm grows without an end."""
    check_plan(plan)
    check_letters(plan, history)
    check_letters(plan, ring)
    check_behaviour(len(plan[1]), behaviour)
    return is_possible_ring(behaviour, history, ring) and is_growing_ring(plan, history, ring)


def harm_table(plan, behaviour=None):
    """Return the ascending list of the tuples (state, node, harm), or None."""
    check_both(plan, behaviour)
    return worth_table(plan_field(plan), behaviour)


def harm_table_fault(plan, table, behaviour=None):
    """Return the tuple that tells the first fault of a table, or None."""
    check_both(plan, behaviour)
    check_table((plan,), table, behaviour)
    return table_fault((plan,), table, behaviour, AS_IT_IS)


def check_both(plan, behaviour):
    """Raise an error for what is no plan, or no behaviour for its signals."""
    check_plan(plan)
    check_behaviour(len(plan[1]), behaviour)


def is_possible_ring(behaviour, history, ring):
    """Tell whether a history with any number of rings behind it is possible."""
    nodes, _ = walked(behaviour, history, [0])
    met = {}
    # What is possible from a set of nodes on does not depend on how often the ring was gone.
    while tuple(nodes) not in met:
        met[tuple(nodes)] = True
        nodes, _ = walked(behaviour, ring, nodes)
    return len(nodes) > 0


def is_growing_ring(plan, history, ring):
    """Tell whether a ring adds harm behind a history with any number of rings."""
    state = last_state(plan, history)
    met = {}
    while state not in met:
        met[state] = True
        along = states_along(plan, state, ring)
        if harm_along(plan, along, ring) == 0:
            return False
        state = along[-1]
    return True
