"""Plans: their form, the first fault of what is none, and the letters for them."""

from stagedplans.checks import are_integers, is_filled_tuple, is_from, is_index, is_tuple_of
from stagedplans.errors import InvalidReadings, NotAPlan, OtherShape
from stagedplans.regions import is_region, is_share
from stagedplans.signals import all_letters, grade_at, is_grade, is_reading, is_signal


def is_plan(value):
    """Tell whether any value is a plan."""
    return first_fault(value) is None


def first_fault(value):
    """Return None for a plan, otherwise the tuple that tells its first fault."""
    if not has_form(value):
        return ("form",)
    regions, signals, stages, tries = value
    for at, region in enumerate(regions):
        if not is_region(region):
            return ("region", at)
    for at, signal in enumerate(signals):
        if not is_signal(signal, len(regions)):
            return ("signal", at)
    for at, stage in enumerate(stages):
        if not is_stage(stage, len(regions)):
            return ("stage", at)
    fault = first_need_fault(len(signals), stages)
    if fault is None:
        fault = first_guard_fault(len(regions), len(signals), stages)
    if fault is None and not is_from(tries, 0):
        fault = ("tries",)
    return fault


def stage_count(plan):
    """Return the number of stages."""
    check_plan(plan)
    return len(plan[2])


def region_count(plan):
    """Return the number of regions."""
    check_plan(plan)
    return len(plan[0])


def signal_count(plan):
    """Return the number of signals."""
    check_plan(plan)
    return len(plan[1])


def letter_of(plan, readings):
    """Return the letter of a list of readings, one for each signal."""
    check_plan(plan)
    signals = plan[1]
    if not are_readings(readings, len(signals)):
        raise InvalidReadings()
    return tuple([
        grade_at(limit, least, reading)
        for (_, limit, least, _), reading in zip(signals, readings)
    ])


def letters_for(plan):
    """Return the ascending list of all letters for the signals."""
    check_plan(plan)
    return all_letters(len(plan[1]))


def check_plan(plan):
    """Raise an error for what is no plan."""
    if not is_plan(plan):
        raise NotAPlan()


def check_alike_in_numbers(one, other):
    """Raise an error for plans whose numbers of regions or of signals differ."""
    if not are_alike_in_numbers(one, other):
        raise OtherShape()


def are_alike_in_numbers(one, other):
    """Tell whether two plans have as many regions and as many signals."""
    return len(one[0]) == len(other[0]) and len(one[1]) == len(other[1])


def check_same_shape(one, other):
    """Raise an error for plans whose regions or signals are not equal."""
    if one[0] != other[0] or one[1] != other[1]:
        raise OtherShape()


def are_readings(value, number):
    """Tell whether any value is a list of so many readings."""
    if not isinstance(value, list) or len(value) != number:
        return False
    return all([is_reading(item) for item in value])


def has_form(value):
    """Tell whether any value is a tuple of four, the first three of them filled tuples."""
    return is_tuple_of(value, 4) and all([is_filled_tuple(item) for item in value[:3]])


def is_stage(value, regions):
    """Tell whether any value is a stage, whatever its needs and guards contain."""
    if not is_tuple_of(value, 4):
        return False
    shares, hold, needs, guards = value
    if not is_tuple_of(shares, regions) or not all([is_share(share) for share in shares]):
        return False
    return is_from(hold, 1) and isinstance(needs, tuple) and isinstance(guards, tuple)


def first_need_fault(signals, stages):
    """Return the tuple of the first need that is no condition, or None."""
    for at, (_, _, needs, _) in enumerate(stages):
        for place, need in enumerate(needs):
            if not is_condition(need, signals):
                return ("need", at, place)
    return None


def first_guard_fault(regions, signals, stages):
    """Return the tuple of the first guard that is none, or None."""
    for at, (_, _, _, guards) in enumerate(stages):
        for place, guard in enumerate(guards):
            if not is_guard(guard, regions, signals, at):
                return ("guard", at, place)
    return None


def is_condition(value, signals):
    """Tell whether any value is a condition for a number of signals."""
    if not are_integers(value, 4):
        return False
    signal, grade, number, window = value
    return is_index(signal, signals) and is_grade(grade) and 1 <= number <= window


def is_guard(value, regions, signals, stage):
    """Tell whether any value is a guard of the stage with an index."""
    if not is_tuple_of(value, 2):
        return False
    condition, action = value
    return is_condition(condition, signals) and is_action(action, regions, stage)


def is_action(value, regions, stage):
    """Tell whether any value is an action of the stage with an index."""
    if not is_filled_tuple(value) or not isinstance(value[0], str):
        return False
    if len(value) == 1:
        return value[0] == "stop"
    if len(value) != 2:
        return False
    word, index = value
    if word == "back":
        return is_index(index, stage + 1)
    return word == "drop" and is_index(index, regions)
