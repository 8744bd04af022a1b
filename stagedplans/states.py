"""States of a plan, one period, and histories."""

from stagedplans.checks import is_filled_tuple, is_index, is_within
from stagedplans.errors import InvalidLetter, InvalidLetters, InvalidState, NoRegion
from stagedplans.plans import check_plan
from stagedplans.regions import check_user, count_at, rank_in
from stagedplans.signals import all_letters, are_letters, is_letter


def begin(plan):
    """Return the state in which a plan begins."""
    check_plan(plan)
    return first_state(plan)


def step(plan, state, letter):
    """Return the state behind one more period."""
    check_plan(plan)
    check_state(plan, state)
    if not is_letter(letter, len(plan[1])):
        raise InvalidLetter()
    return next_state(plan, state, letter)


def state_after(plan, letters):
    """Return the state behind a history."""
    check_plan(plan)
    check_letters(plan, letters)
    state = first_state(plan)
    for letter in letters:
        state = next_state(plan, state, letter)
    return state


def counts(plan, state):
    """Return the list of the open counts of the regions."""
    check_plan(plan)
    check_state(plan, state)
    return counts_in(plan, state)


def is_state(plan, value):
    """Tell whether any value is a state of a plan."""
    check_plan(plan)
    return is_state_of(value, plan)


def states(plan):
    """Return the ascending list of the states behind all histories."""
    check_plan(plan)
    return sorted(list(reached_states(plan)))


def history_to(plan, state):
    """Return the first of the shortest histories that lead to a state, or None."""
    check_plan(plan)
    check_state(plan, state)
    found = reached_states(plan)
    if state not in found:
        return None
    letters = []
    way = found[state]
    while way is not None:
        before, letter = way
        letters.append(letter)
        way = found[before]
    return letters[::-1]


def has_version(plan, state, region, user):
    """Tell whether a region is open to a user in a state."""
    check_plan(plan)
    check_state(plan, state)
    check_region_index(plan, region)
    check_user(user, plan[0][region])
    return is_open_in(plan, state, region, user)


def check_state(plan, state):
    """Raise an error for what is no state of a plan."""
    if not is_state_of(state, plan):
        raise InvalidState()


def check_letters(plan, letters):
    """Raise an error for what is no list of letters for the signals of a plan."""
    if not are_letters(letters, len(plan[1])):
        raise InvalidLetters()


def check_region_index(plan, region):
    """Raise an error for what is no index of a region of a plan."""
    if not is_index(region, len(plan[0])):
        raise NoRegion()


def is_state_of(value, plan):
    """Tell whether any value is a state of a plan, without checks of the plan."""
    if not is_filled_tuple(value) or not isinstance(value[0], str):
        return False
    word = value[0]
    if word == "open":
        return len(value) == 6 and is_open_state(value, plan)
    if word == "done":
        return len(value) == 2 and is_dropped(value[1], plan)
    return word == "stopped" and len(value) == 1


def is_open_state(value, plan):
    """Tell whether a tuple of six elements is an open state, but for its word."""
    _, stage, age, tail, dropped, left = value
    if not is_index(stage, len(plan[2])) or not is_within(left, 0, plan[3]):
        return False
    return is_tail(tail, plan) and is_stay(age, len(tail), plan[2][stage]) and is_dropped(dropped, plan)


def is_tail(value, plan):
    """Tell whether any value is a tuple of letters for the signals of a plan."""
    return isinstance(value, tuple) and are_letters(list(value), len(plan[1]))


def is_stay(age, kept, stage):
    """Tell whether some stay of a stage has an age and so many letters that are kept."""
    most_age = stage[1] - 1
    most_kept = kept_letters(stage)
    if not is_within(age, 0, most_age):
        return False
    if age < most_age:
        return kept == min(age, most_kept)
    # At the greatest age the stay may have any length from this age on.
    return min(age, most_kept) <= kept <= most_kept


def is_dropped(value, plan):
    """Tell whether any value is an ascending tuple of indexes of regions, not of all."""
    many = len(plan[0])
    if not isinstance(value, tuple) or len(value) >= many:
        return False
    if not all([is_index(region, many) for region in value]):
        return False
    return all([one < other for one, other in zip(value, value[1:])])


def kept_letters(stage):
    """Return how many last letters of its stay a stage keeps between two periods."""
    _, _, needs, guards = stage
    windows = [need[3] for need in needs] + [condition[3] for condition, _ in guards]
    return max(windows, default=1) - 1


def first_state(plan):
    """Return the state in which a plan begins, without checks."""
    return fresh_state(0, (), plan[3])


def fresh_state(stage, dropped, left):
    """Return the state in which a stage begins with an empty stay."""
    return ("open", stage, 0, (), dropped, left)


def next_state(plan, state, letter):
    """Return the state behind one more period, without checks."""
    if state[0] != "open":
        return state
    _, stage, _, tail, dropped, left = state
    stay = (*tail, letter)
    action = acting(plan, stage, stay, dropped)
    if action is None:
        return state_unguarded(plan, state, stay)
    if action[0] == "drop":
        return state_dropping(plan, state, stay, action[1])
    if action[0] == "back" and left > 0:
        return fresh_state(action[1], dropped, left - 1)
    return ("stopped",)


def state_unguarded(plan, state, stay):
    """Return the state behind a period at whose end no guard acts."""
    _, stage, age, _, dropped, left = state
    _, hold, needs, _ = plan[2][stage]
    if age + 1 < hold or not all([is_met(plan, need, stay, dropped) for need in needs]):
        return state_staying(plan, stage, age + 1, stay, dropped, left)
    if stage + 1 < len(plan[2]):
        return fresh_state(stage + 1, dropped, left)
    return ("done", dropped)


def state_dropping(plan, state, stay, region):
    """Return the state behind a period at whose end a guard drops a region."""
    _, stage, age, _, dropped, left = state
    dropped_now = tuple(sorted([*dropped, region]))
    if len(dropped_now) == len(plan[0]):
        return ("stopped",)
    return state_staying(plan, stage, age + 1, stay, dropped_now, left)


def state_staying(plan, stage, length, stay, dropped, left):
    """Return the open state of a stay with a length and these last letters at least."""
    kept = kept_letters(plan[2][stage])
    age = min(length, plan[2][stage][1] - 1)
    return ("open", stage, age, stay[max(0, len(stay) - kept):], dropped, left)


def acting(plan, stage, stay, dropped):
    """Return the action of the first guard that acts for a stay, or None."""
    for condition, action in plan[2][stage][3]:
        passed_over = is_of_dropped(plan, condition, dropped) or is_vain(action, dropped)
        if not passed_over and holds(condition, stay):
            return action
    return None


def is_met(plan, need, stay, dropped):
    """Tell whether a need holds for a stay, or counts as one that does."""
    return is_of_dropped(plan, need, dropped) or holds(need, stay)


def is_of_dropped(plan, condition, dropped):
    """Tell whether the region of a condition's signal is dropped."""
    return plan[1][condition[0]][0] in dropped


def is_vain(action, dropped):
    """Tell whether an action drops a region that is dropped."""
    return action[0] == "drop" and action[1] in dropped


def holds(condition, stay):
    """Tell whether a condition holds for the last letters of a stay."""
    signal, grade, number, window = condition
    return len([letter for letter in stay[-window:] if letter[signal] == grade]) >= number


def counts_in(plan, state):
    """Return the list of the open counts of the regions in a state, without checks."""
    regions = plan[0]
    shares = shares_in(plan, state)
    return [count_at(region, share) for region, share in zip(regions, shares)]


def shares_in(plan, state):
    """Return the list of the shares at which the regions are open in a state."""
    regions, _, stages, _ = plan
    if state[0] == "stopped":
        return [0 for _ in regions]
    if state[0] == "done":
        shares = stages[-1][0]
        dropped = state[1]
    else:
        shares = stages[state[1]][0]
        dropped = state[4]
    return [0 if region in dropped else share for region, share in enumerate(shares)]


def is_open_in(plan, state, region, user):
    """Tell whether a region is open to a user in a state, without checks."""
    return rank_in(plan[0][region], user) < counts_in(plan, state)[region]


def reached_states(plan):
    """Return a dict of the states behind all histories.

    Each state stands there with the state and the letter that lead to it on the first of
    the shortest histories; the first state with None. The states are looked at in the
    order of these histories, so the history that finds a state first is that one.
    """
    letters = all_letters(len(plan[1]))
    start = first_state(plan)
    found = {start: None}
    waiting = [start]
    at = 0
    while at < len(waiting):
        state = waiting[at]
        at += 1
        for letter in letters:
            behind = next_state(plan, state, letter)
            if behind not in found:
                found[behind] = (state, letter)
                waiting.append(behind)
    return found
