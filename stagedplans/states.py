"""States of a plan, one period, and histories."""

from stagedplans.checks import is_filled_tuple, is_index, is_within
from stagedplans.errors import InvalidLetter, InvalidLetters, InvalidState, InvalidWord, NoRegion
from stagedplans.periods import counts_in, first_state, is_open_in, kept_letters, last_state, next_state, state_graph
from stagedplans.plans import check_plan
from stagedplans.regions import check_user
from stagedplans.searches import first_history, free_turns
from stagedplans.signals import all_letters, are_letters, is_letter

WORDS = ("done", "open", "stopped")


def begin(plan):
    """Return the state in which a plan begins."""
    check_plan(plan)
    return first_state(plan)


def step(plan, state, letter):
    """Return the state behind one more period."""
    check_plan(plan)
    check_state(plan, state)
    if not is_letter(letter, len(plan[1])):
        raise InvalidLetter()
    return next_state(plan, state, letter)


def state_after(plan, letters):
    """Return the state behind a history."""
    check_plan(plan)
    check_letters(plan, letters)
    return last_state(plan, letters)


def counts(plan, state):
    """Return the list of the open counts of the regions."""
    check_plan(plan)
    check_state(plan, state)
    return counts_in(plan, state)


def is_state(plan, value):
    """Tell whether any value is a state of a plan."""
    check_plan(plan)
    return is_state_of(value, plan)


def states(plan):
    """Return the ascending list of the states behind all histories."""
    check_plan(plan)
    listed, _ = state_graph(plan)
    return sorted(listed)


def history_to(plan, state):
    """Return the first of the shortest histories that lead to a state, or None."""
    check_plan(plan)
    check_state(plan, state)
    listed, followers = state_graph(plan)
    letters = all_letters(len(plan[1]))
    found = first_history(followers, free_turns(len(letters)), [other == state for other in listed])
    return None if found is None else [letters[at] for at in found]


def has_version(plan, state, region, user):
    """Tell whether a region is open to a user in a state."""
    check_plan(plan)
    check_state(plan, state)
    check_region_index(plan, region)
    check_user(user, plan[0][region])
    return is_open_in(plan, state, region, user)


def check_state(plan, state):
    """Raise an error for what is no state of a plan."""
    if not is_state_of(state, plan):
        raise InvalidState()


def check_letters(plan, letters):
    """Raise an error for what is no list of letters for the signals of a plan."""
    if not are_letters(letters, len(plan[1])):
        raise InvalidLetters()


def check_region_index(plan, region):
    """Raise an error for what is no index of a region of a plan."""
    if not is_index(region, len(plan[0])):
        raise NoRegion()


def check_word(word):
    """Raise an error for what is no word of a state."""
    if not isinstance(word, str) or word not in WORDS:
        raise InvalidWord()


def is_state_of(value, plan):
    """Tell whether any value is a state of a plan, without checks of the plan."""
    if not is_filled_tuple(value) or not isinstance(value[0], str):
        return False
    word = value[0]
    if word == "open":
        return len(value) == 6 and is_open_state(value, plan)
    if word == "done":
        return len(value) == 2 and is_dropped(value[1], plan)
    return word == "stopped" and len(value) == 1


def is_open_state(value, plan):
    """Tell whether a tuple of six elements is an open state, but for its word."""
    _, stage, age, tail, dropped, left = value
    if not is_index(stage, len(plan[2])) or not is_within(left, 0, plan[3]):
        return False
    return is_tail(tail, plan) and is_stay(age, len(tail), plan[2][stage]) and is_dropped(dropped, plan)


def is_tail(value, plan):
    """Tell whether any value is a tuple of letters for the signals of a plan."""
    return isinstance(value, tuple) and are_letters(list(value), len(plan[1]))


def is_stay(age, kept, stage):
    """Tell whether some stay of a stage has an age and so many letters that are kept."""
    most_age = stage[1] - 1
    most_kept = kept_letters(stage)
    if not is_within(age, 0, most_age):
        return False
    if age < most_age:
        return kept == min(age, most_kept)
    # At the greatest age the stay may have any length from this age on.
    return min(age, most_kept) <= kept <= most_kept


def is_dropped(value, plan):
    """Tell whether any value is an ascending tuple of indexes of regions, not of all."""
    many = len(plan[0])
    if not isinstance(value, tuple) or len(value) >= many:
        return False
    if not all([is_index(region, many) for region in value]):
        return False
    return all([one < other for one, other in zip(value, value[1:])])
