"""How much more harm one plan can do than another one, and the certificates of it."""

from stagedplans.behaviours import check_behaviour
from stagedplans.plans import check_alike_in_numbers, check_plan
from stagedplans.tables import AS_IT_IS, check_table, table_fault
from stagedplans.walks import greatest_gain, greatest_history, growing_ring, twin_field, worth_table


def worst_gap(one, other, behaviour=None):
    """Return the greatest gap of a possible history, or None if there is no upper bound."""
    check_all(one, other, behaviour)
    return greatest_gain(twin_field(one, other), behaviour)


def gap_history(one, other, behaviour=None):
    """Return the first of the shortest possible histories with the greatest gap, or None."""
    check_all(one, other, behaviour)
    return greatest_history(twin_field(one, other), behaviour)


def gap_ring(one, other, behaviour=None):
    """Return a tuple (history, ring) with which the gap grows without an end, or None."""
    check_all(one, other, behaviour)
    return growing_ring(twin_field(one, other), behaviour)


def gap_table(one, other, behaviour=None):
    """Return the ascending list of the tuples (state, other state, node, gap), or None."""
    check_all(one, other, behaviour)
    return worth_table(twin_field(one, other), behaviour)


def gap_table_fault(one, other, table, behaviour=None):
    """Return the tuple that tells the first fault of a table of gaps, or None."""
    check_all(one, other, behaviour)
    check_table((one, other), table, behaviour)
    return table_fault((one, other), table, behaviour, AS_IT_IS)


def never_worse(one, other, behaviour=None):
    """Tell whether the greatest gap is 0."""
    check_all(one, other, behaviour)
    return greatest_gain(twin_field(one, other), behaviour) == 0


def check_all(one, other, behaviour):
    """Raise an error for what are no plans of one shape, or no behaviour for their signals."""
    check_plan(one)
    check_plan(other)
    check_alike_in_numbers(one, other)
    check_behaviour(len(one[1]), behaviour)
