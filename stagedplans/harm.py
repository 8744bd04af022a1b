"""The harm of a history, and the users that it hurts."""

from stagedplans.periods import counts_in, first_state, is_open_in, next_state
from stagedplans.plans import check_plan
from stagedplans.regions import check_user
from stagedplans.signals import ALL_GRADES, BAD
from stagedplans.states import check_letters, check_region_index


def harm_of(plan, letters):
    """Return the sum of the harm of all periods of a history."""
    check_plan(plan)
    check_letters(plan, letters)
    return sum([period_harm(plan, state, letter) for state, letter in periods_of(plan, letters)])


def hurt_of(plan, letters):
    """Return the list, by regions, of how many users are hurt."""
    check_plan(plan)
    check_letters(plan, letters)
    hurt = [0 for _ in plan[0]]
    for state, letter in periods_of(plan, letters):
        # The users of a smaller count are among those of a greater one.
        hurt = [max(one, other) for one, other in zip(hurt, period_hurt(plan, state, letter))]
    return hurt


def user_hurt(plan, letters, region, user):
    """Return the index of the first period in which a user is hurt, or None."""
    check_plan(plan)
    check_letters(plan, letters)
    check_region_index(plan, region)
    check_user(user, plan[0][region])
    for at, (state, letter) in enumerate(periods_of(plan, letters)):
        if state[0] == "open" and region in bad_regions(plan, letter) and is_open_in(plan, state, region, user):
            return at
    return None


def periods_of(plan, letters):
    """Return the list of the tuples (state, letter) of the periods of a history."""
    state = first_state(plan)
    periods = []
    for letter in letters:
        periods.append((state, letter))
        state = next_state(plan, state, letter)
    return periods


def period_harm(plan, state, letter):
    """Return the harm of a period that begins in a state."""
    return sum([cost for cost, grade in zip(costs_in(plan, state), letter) if grade == BAD])


def harms_in(plan, state):
    """Return the list of the harm of a period that begins in a state, by its letter, ascending."""
    harms = [0]
    for cost in costs_in(plan, state):
        harms = [harm + cost if grade == BAD else harm for harm in harms for grade in ALL_GRADES]
    return harms


def costs_in(plan, state):
    """Return the list of the harm that each signal does in a state if it is bad."""
    if state[0] != "open":
        return [0 for _ in plan[1]]
    due = counts_in(plan, state)
    return [price * due[region] for region, _, _, price in plan[1]]


def period_hurt(plan, state, letter):
    """Return the list, by regions, of how many users are hurt in a period."""
    if state[0] != "open":
        return [0 for _ in plan[0]]
    bad = bad_regions(plan, letter)
    return [count if region in bad else 0 for region, count in enumerate(counts_in(plan, state))]


def bad_regions(plan, letter):
    """Return the list of the regions of the signals that are bad in a letter."""
    return [region for (region, _, _, _), grade in zip(plan[1], letter) if grade == BAD]
