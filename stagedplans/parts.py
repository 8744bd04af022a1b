"""Parts of plans that never count, shares, and joined plans."""

from stagedplans.behaviours import check_behaviour, turns_of
from stagedplans.checks import is_from, is_index, is_tuple_of
from stagedplans.errors import InvalidNumber, NoPart, NoStage
from stagedplans.harm import harms_of_states
from stagedplans.likeness import is_like, told_from
from stagedplans.periods import first_state, state_graph
from stagedplans.plans import check_plan, check_same_shape
from stagedplans.regions import FULL_SHARE, check_share, count_at, greatest_share_to
from stagedplans.states import check_region_index
from stagedplans.walks import first_greatest, gain_from, walk_graph

# Where the parts with a word stand in a stage, in ascending order of the words.
PART_PLACES = {"guard": 3, "need": 2}


def without_part(plan, part):
    """Return a plan without a part."""
    check_plan(plan)
    if not is_part(part, plan):
        raise NoPart()
    return left_without(plan, part)


def idle_parts(plan):
    """Return the ascending list of the parts without which, each one alone, a plan is alike to itself."""
    check_plan(plan)
    told = told_from(plan, first_state(plan))
    return [part for part in parts_of(plan) if is_like(told, left_without(plan, part))]


def unreached_stages(plan):
    """Return the ascending list of the indexes of the stages that no history leads to."""
    check_plan(plan)
    listed, _ = state_graph(plan)
    reached = {state[1]: True for state in listed if state[0] == "open"}
    return [stage for stage in range(len(plan[2])) if stage not in reached]


def slim(plan):
    """Return a plan from which the first idle part has been taken out until it has none."""
    check_plan(plan)
    # What is left is alike to the plan all along.
    told = told_from(plan, first_state(plan))
    left = plan
    part = first_idle(told, left)
    while part is not None:
        left = left_without(left, part)
        part = first_idle(told, left)
    return left


def with_share(plan, stage, region, share):
    """Return a plan with another share of a region in a stage."""
    check_place(plan, stage, region)
    check_share(share)
    return left_with_share(plan, stage, region, share)


def greatest_share(plan, stage, region, most, behaviour=None):
    """Return the greatest share with which the greatest harm is not above a number, or None."""
    check_place(plan, stage, region)
    if not is_from(most, 0):
        raise InvalidNumber()
    check_behaviour(len(plan[1]), behaviour)
    listed, followers = state_graph(plan)
    # No share changes which states follow, and with a greater one no history does less harm.
    graph = walk_graph(followers, turns_of(behaviour, len(followers[0])))
    least = harms_of_states(left_with_share(plan, stage, region, 0), listed)
    share = FULL_SHARE
    while share is not None:
        harms = harms_of_states(left_with_share(plan, stage, region, share), listed)
        history = first_greatest(graph, harms)
        count = count_at(plan[0][region], share)
        if history is None:
            # If the harm has no upper bound with some open count, it has none with any but 0.
            bound = 0 if count > 0 else None
        else:
            harm = gain_from(followers, harms, 0, history)
            if harm <= most:
                return share
            bound = greatest_count(gain_from(followers, least, 0, history), harm, count, most)
        share = None if bound is None else greatest_share_to(plan[0][region], bound)
    return None


def joined(one, other):
    """Return the plan with the stages of two plans, one behind the other."""
    check_plan(one)
    check_plan(other)
    check_same_shape(one, other)
    return join_of(one, other)


def check_place(plan, stage, region):
    """Raise an error for what is no plan, no index of a stage of it, or no index of a region."""
    check_plan(plan)
    if not is_index(stage, len(plan[2])):
        raise NoStage()
    check_region_index(plan, region)


def is_part(value, plan):
    """Tell whether any value is a part of a plan."""
    if not is_tuple_of(value, 3) or not isinstance(value[0], str) or value[0] not in PART_PLACES:
        return False
    word, stage, at = value
    return is_index(stage, len(plan[2])) and is_index(at, len(plan[2][stage][PART_PLACES[word]]))


def parts_of(plan):
    """Return the ascending list of the parts of a plan."""
    return [
        (word, stage, at)
        for word, place in PART_PLACES.items()
        for stage, told in enumerate(plan[2])
        for at in range(len(told[place]))
    ]


def first_idle(told, plan):
    """Return the first part without which a plan has the outputs that are told, or None."""
    for part in parts_of(plan):
        if is_like(told, left_without(plan, part)):
            return part
    return None


def left_without(plan, part):
    """Return a plan without a part, without checks."""
    word, stage, at = part
    place = PART_PLACES[word]
    rows = plan[2][stage][place]
    return with_stage_place(plan, stage, place, (*rows[:at], *rows[at + 1:]))


def left_with_share(plan, stage, region, share):
    """Return a plan with another share, without checks."""
    return with_stage_place(plan, stage, 0, replaced(plan[2][stage][0], region, share))


def with_stage_place(plan, stage, place, new):
    """Return a plan with something new at a place of a stage."""
    return replaced(plan, 2, replaced(plan[2], stage, replaced(plan[2][stage], place, new)))


def replaced(items, at, new):
    """Return a tuple with something new at an index."""
    return (*items[:at], new, *items[at + 1:])


def greatest_count(least, harm, count, most):
    """Return the greatest open count with which a history does not do more harm than most, or None.

    The history does the least harm with the count 0, the harm with the count, and with each
    further user as much more; the harm is above most.
    """
    return (most - least) * count // (harm - least) if least <= most else None


def join_of(one, other):
    """Return the plan with the stages of two plans, without checks."""
    regions, signals, stages, tries = one
    _, _, others, more = other
    behind = [
        (shares, hold, needs, tuple([(condition, later(action, len(stages))) for condition, action in guards]))
        for shares, hold, needs, guards in others
    ]
    return (regions, signals, (*stages, *behind), tries + more)


def later(action, many):
    """Return an action of a stage that stands a number of stages further behind."""
    return ("back", action[1] + many) if action[0] == "back" else action
