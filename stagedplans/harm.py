"""The harm of a history, and the users that it hurts."""

from stagedplans.periods import counts_in, first_state, frame_of, is_open_in, states_along
from stagedplans.plans import check_plan
from stagedplans.regions import check_user
from stagedplans.signals import ALL_GRADES, BAD
from stagedplans.states import check_letters, check_region_index


def harm_of(plan, letters):
    """Return the sum of the harm of all periods of a history."""
    check_plan(plan)
    check_letters(plan, letters)
    return harm_along(plan, states_along(plan, first_state(plan), letters), letters)


def hurt_of(plan, letters):
    """Return the list, by regions, of how many users are hurt."""
    check_plan(plan)
    check_letters(plan, letters)
    hurt = [0 for _ in plan[0]]
    known = {}
    for state, letter in zip(states_along(plan, first_state(plan), letters), letters):
        # Where the stage and the dropped regions are the same, a letter hurts the same users again.
        moment = (frame_of(state), letter)
        if moment not in known:
            known[moment] = True
            hurt = more_hurt(hurt, period_hurt(plan, state, letter))
    return hurt


def user_hurt(plan, letters, region, user):
    """Return the index of the first period in which a user is hurt, or None."""
    check_plan(plan)
    check_letters(plan, letters)
    check_region_index(plan, region)
    check_user(user, plan[0][region])
    for at, (state, letter) in enumerate(zip(states_along(plan, first_state(plan), letters), letters)):
        if state[0] == "open" and region in bad_regions(plan, letter) and is_open_in(plan, state, region, user):
            return at
    return None


def harm_along(plan, along, letters):
    """Return the sum of the harm of the periods that begin in some states, by their letters."""
    known = {}
    total = 0
    for state, letter in zip(along, letters):
        if state[0] != "open":
            # What has ended stays so, and does no harm any more.
            return total
        frame = (state[1], state[4])
        if frame not in known:
            known[frame] = costs_in(plan, state)
        for cost, grade in zip(known[frame], letter):
            if grade == BAD:
                total = total + cost
    return total


def period_harm(plan, state, letter):
    """Return the harm of a period that begins in a state."""
    return harm_along(plan, [state], [letter])


def harms_in(plan, state):
    """Return the list of the harm of a period that begins in a state, by its letter, ascending."""
    harms = [0]
    for cost in costs_in(plan, state):
        harms = [harm + cost if grade == BAD else harm for harm in harms for grade in ALL_GRADES]
    return harms


def harms_of_states(plan, listed):
    """Return the list, by states, of the lists of the harm of a period, by its letter, ascending."""
    known = {}
    for state in listed:
        frame = frame_of(state)
        if frame not in known:
            known[frame] = harms_in(plan, state)
    return [known[frame_of(state)] for state in listed]


def costs_in(plan, state):
    """Return the list of the harm that each signal does in a state if it is bad."""
    if state[0] != "open":
        return [0 for _ in plan[1]]
    due = counts_in(plan, state)
    return [price * due[region] for region, _, _, price in plan[1]]


def period_hurt(plan, state, letter):
    """Return the list, by regions, of how many users are hurt in a period."""
    if state[0] != "open":
        return [0 for _ in plan[0]]
    bad = bad_regions(plan, letter)
    return [count if region in bad else 0 for region, count in enumerate(counts_in(plan, state))]


def more_hurt(hurt, other):
    """Return the list, by regions, of how many users are hurt in two periods together."""
    # The users of a smaller count are among those of a greater one.
    return [max(many, others) for many, others in zip(hurt, other)]


def bad_regions(plan, letter):
    """Return the list of the regions of the signals that are bad in a letter."""
    return [region for (region, _, _, _), grade in zip(plan[1], letter) if grade == BAD]
