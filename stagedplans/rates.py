"""Rates of harm: how much harm long histories can do for each of their periods."""

from math import gcd
from stagedplans.behaviours import check_behaviour, turns_of
from stagedplans.checks import are_integers
from stagedplans.errors import InvalidRate
from stagedplans.plans import check_plan
from stagedplans.tables import check_table, table_fault
from stagedplans.walks import farthest, lessened, links_of, plan_field, ring_gain, ring_histories
from stagedplans.walks import walk_graph, worth_table

LEAST_RATE = (0, 1)


def harm_rate(plan, behaviour=None):
    """Return the least rate that all possible histories keep to, but for a number."""
    check_plan(plan)
    check_behaviour(len(plan[1]), behaviour)
    field = plan_field(plan)
    graph = walk_graph(field[2], turns_of(behaviour, len(field[0])))
    rate, _ = greatest_rate(links_of(graph, field[3]))
    return rate


def rate_table(plan, rate, behaviour=None):
    """Return the ascending list of the tuples (state, node, excess) for a rate, or None."""
    check_plan(plan)
    check_rate(rate)
    check_behaviour(len(plan[1]), behaviour)
    letters, spots, followers, gains = plan_field(plan)
    return worth_table((letters, spots, followers, lessened(gains, rate)), behaviour)


def rate_table_fault(plan, rate, table, behaviour=None):
    """Return the tuple that tells the first fault of a table for a rate, or None."""
    check_plan(plan)
    check_rate(rate)
    check_behaviour(len(plan[1]), behaviour)
    check_table((plan,), table, behaviour)
    return table_fault((plan,), table, behaviour, rate)


def rate_ring(plan, behaviour=None):
    """Return a tuple (history, ring) with the rate of a plan, or None if there is no ring."""
    check_plan(plan)
    check_behaviour(len(plan[1]), behaviour)
    field = plan_field(plan)
    graph = walk_graph(field[2], turns_of(behaviour, len(field[0])))
    links = links_of(graph, field[3])
    _, ring = greatest_rate(links)
    return None if ring is None else ring_histories(field, graph, links, ring)


def check_rate(rate):
    """Raise an error for what is no rate."""
    if not is_rate(rate):
        raise InvalidRate()


def is_rate(value):
    """Tell whether any value is a rate."""
    return are_integers(value, 2) and value[0] >= 0 and value[1] >= 1 and gcd(value[0], value[1]) == 1


def greatest_rate(links):
    """Return the greatest rate of a ring, and a ring with it, or None if there is no ring.

    A ring has a greater rate than another one if it gains more than none with each period
    less the other rate. So rings are taken until there is no such ring any more.
    """
    rate, ring = LEAST_RATE, any_ring(links)
    while ring is not None:
        rate = rate_of(links, ring)
        _, rings = farthest(lessened_links(links, rate))
        better = best_ring(links, rings)
        if better is None:
            return rate, ring
        ring = better
    return rate, ring


def any_ring(links):
    """Return a ring, or None if there is none."""
    _, rings = farthest([{end: 1 for end in row} for row in links])
    return best_ring(links, rings)


def lessened_links(links, rate):
    """Return the links with bottom times each gain, less top, for a rate (top, bottom)."""
    top, bottom = rate
    return [{end: bottom * gain - top for end, gain in row.items()} for row in links]


def best_ring(links, rings):
    """Return the ring with the greatest rate, or None if there are none."""
    best = None
    for ring in rings:
        if best is None or is_greater(rate_of(links, ring), rate_of(links, best)):
            best = ring
    return best


def rate_of(links, ring):
    """Return the rate of a ring: what it gains for each of its periods."""
    gain = ring_gain(links, ring)
    common = gcd(gain, len(ring))
    return (gain // common, len(ring) // common)


def is_greater(rate, other):
    """Tell whether a rate is greater than another one."""
    return rate[0] * other[1] > other[0] * rate[1]
