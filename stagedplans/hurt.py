"""The most users that possible histories can hurt."""

from stagedplans.behaviours import check_behaviour, turns_of
from stagedplans.harm import period_hurt
from stagedplans.periods import state_graph
from stagedplans.plans import check_plan
from stagedplans.regions import check_user, rank_in
from stagedplans.searches import history_by, nodes_behind
from stagedplans.signals import all_letters
from stagedplans.states import check_region_index
from stagedplans.walks import walk_graph


def greatest_hurt(plan, behaviour=None):
    """Return the greatest sum of the hurt users of a possible history."""
    check_plan(plan)
    check_behaviour(len(plan[1]), behaviour)
    most, _ = most_hurt(plan, behaviour)
    return most


def hurt_history(plan, behaviour=None):
    """Return the first of the shortest possible histories that hurt the most users."""
    check_plan(plan)
    check_behaviour(len(plan[1]), behaviour)
    _, history = most_hurt(plan, behaviour)
    letters = all_letters(len(plan[1]))
    return [letters[letter] for letter in history]


def hurt_limits(plan, behaviour=None):
    """Return the list, by regions, of the most users that a possible history hurts."""
    check_plan(plan)
    check_behaviour(len(plan[1]), behaviour)
    return limits_of(plan, behaviour)


def may_be_hurt(plan, region, user, behaviour=None):
    """Tell whether some possible history hurts a user."""
    check_plan(plan)
    check_region_index(plan, region)
    check_user(user, plan[0][region])
    check_behaviour(len(plan[1]), behaviour)
    return rank_in(plan[0][region], user) < limits_of(plan, behaviour)[region]


def limits_of(plan, behaviour):
    """Return the list, by regions, of the most users that a possible history hurts, without checks."""
    listed, followers = state_graph(plan)
    turns = turns_of(behaviour, len(followers[0]))
    return list(limits_by(walk_graph(followers, turns), hurts_by_letter(plan, listed), len(plan[0])))


def limits_by(graph, hurts, regions):
    """Return the tuple, by regions, of the most users hurt in one period of possible histories."""
    pairs, targets, _ = graph
    limits = tuple([0 for _ in range(regions)])
    for (spot, _), row in zip(pairs, targets):
        for hurt, ends in zip(hurts[spot], row):
            if len(ends) > 0:
                limits = greatest_of(limits, hurt)
    return limits


def hurts_by_letter(plan, listed):
    """Return the list, by states and letters, of the tuples of how many users are hurt, by regions."""
    letters = all_letters(len(plan[1]))
    return [[tuple(period_hurt(plan, state, letter)) for letter in letters] for state in listed]


def greatest_of(hurt, other):
    """Return the tuple of the greater ones of the numbers at each index."""
    # The users of a smaller count are among those of a greater one.
    return tuple([max(many, others) for many, others in zip(hurt, other)])


def most_hurt(plan, behaviour):
    """Return the greatest sum of hurt users, and the first of the shortest histories with it.

    Each group is what one history leads to: a spot, how many users are hurt so far, and the
    nodes with which no history ahead of this one leads to the spot and hurts as many users in
    each region. What a history does that is left out, one ahead of it does as well.
    """
    listed, followers = state_graph(plan)
    turns = turns_of(behaviour, len(followers[0]))
    hurts = hurts_by_letter(plan, listed)
    most = sum(limits_by(walk_graph(followers, turns), hurts, len(plan[0])))
    groups = [(0, tuple([0 for _ in plan[0]]), [0])]
    ways = [(0, 0)]
    met = {(0, 0): [groups[0][1]]}
    best = 0
    at = 0
    while at < len(groups) and sum(groups[best][1]) < most:
        spot, hurt, nodes = groups[at]
        for letter, behind in enumerate(followers[spot]):
            now = greatest_of(hurt, hurts[spot][letter])
            fresh = [
                node
                for node in nodes_behind(turns, nodes, letter)
                if not is_covered(now, met.get((behind, node), []))
            ]
            if len(fresh) > 0:
                for node in fresh:
                    met.setdefault((behind, node), []).append(now)
                groups.append((behind, now, fresh))
                ways.append((at, letter))
                if sum(now) > sum(groups[best][1]):
                    best = len(groups) - 1
        at += 1
    return sum(groups[best][1]), history_by(ways, best)


def is_covered(hurt, others):
    """Tell whether one of some tuples has a number as great at each index."""
    for other in others:
        if all([many <= more for many, more in zip(hurt, other)]):
            return True
    return False
