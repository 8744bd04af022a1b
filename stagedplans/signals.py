"""Signals, their readings and grades, and letters."""

from stagedplans.checks import are_integers, is_from, is_index, is_within
from stagedplans.errors import InvalidLeast, InvalidLimit, InvalidReading, InvalidSpan

NONE = 0
GOOD = 1
BAD = 2
ALL_GRADES = (NONE, GOOD, BAD)
FULL_LIMIT = 1000


def grade_of(limit, least, reading):
    """Return the grade of a reading."""
    check_limit(limit)
    check_least(least)
    if not is_reading(reading):
        raise InvalidReading()
    return grade_at(limit, least, reading)


def possible_grades(limit, least, uses, faults):
    """Return the ascending list of the grades of all readings in two spans."""
    check_limit(limit)
    check_least(least)
    check_span(uses)
    check_span(faults)
    fewest_uses, most_uses = uses
    fewest_faults, most_faults = faults
    grades = []
    few_uses = min(most_uses, least - 1)
    if few_uses >= max(fewest_uses, fewest_faults):
        grades.append(NONE)
    enough_uses = max(fewest_uses, fewest_faults, least)
    if enough_uses > most_uses:
        return grades
    # If any of these readings is good, the one with the most uses and the fewest faults is.
    if not is_bad(limit, most_uses, fewest_faults):
        grades.append(GOOD)
    # If any is bad, the one with the fewest uses and, of these, as many faults as can be is.
    if is_bad(limit, enough_uses, min(enough_uses, most_faults)):
        grades.append(BAD)
    return grades


def check_limit(limit):
    """Raise an error for what is no limit."""
    if not is_within(limit, 0, FULL_LIMIT):
        raise InvalidLimit()


def check_least(least):
    """Raise an error for what is no least number of uses."""
    if not is_from(least, 1):
        raise InvalidLeast()


def check_span(span):
    """Raise an error for what is no span."""
    if not is_ordered_pair(span):
        raise InvalidSpan()


def is_ordered_pair(value):
    """Tell whether any value is a tuple of two integers from 0 on, the first not above the second."""
    return are_integers(value, 2) and 0 <= value[0] <= value[1]


def is_reading(value):
    """Tell whether any value is a reading."""
    return are_integers(value, 2) and 0 <= value[1] <= value[0]


def is_signal(value, regions):
    """Tell whether any value is a signal of one of a number of regions."""
    if not are_integers(value, 4):
        return False
    region, limit, least, price = value
    return is_index(region, regions) and 0 <= limit <= FULL_LIMIT and least >= 1 and price >= 0


def is_grade(value):
    """Tell whether any value is a grade."""
    return is_within(value, NONE, BAD)


def is_letter(value, number):
    """Tell whether any value is a letter for a number of signals."""
    return are_letters([value], number)


def are_letters(value, number):
    """Tell whether any value is a list of letters for a number of signals."""
    if not isinstance(value, list):
        return False
    for letter in value:
        if not isinstance(letter, tuple) or len(letter) != number:
            return False
        for grade in letter:
            if not isinstance(grade, int) or not NONE <= grade <= BAD or grade is True or grade is False:
                return False
    return True


def is_bad(limit, uses, faults):
    """Tell whether there are more faults than the limit allows."""
    return faults * FULL_LIMIT > limit * uses


def grade_at(limit, least, reading):
    """Return the grade of a reading, without checks."""
    uses, faults = reading
    if uses < least:
        return NONE
    if is_bad(limit, uses, faults):
        return BAD
    return GOOD


def all_letters(number):
    """Return the ascending list of all letters for a number of signals."""
    letters = [()]
    for _ in range(number):
        letters = [(*letter, grade) for letter in letters for grade in ALL_GRADES]
    return letters


def letter_index(letter):
    """Return the index of a letter in the ascending list of all letters."""
    index = 0
    for grade in letter:
        index = index * len(ALL_GRADES) + grade
    return index


def is_partial(value, number):
    """Tell whether a value is a partial letter for a number of signals."""
    if not isinstance(value, tuple) or len(value) != number:
        return False
    for grade in value:
        if grade is None:
            continue
        if not isinstance(grade, int) or not NONE <= grade <= BAD or grade is True or grade is False:
            return False
    return True


def fitting_indexes(partial):
    """Return the ascending list of the indexes of the letters that fit a partial letter."""
    indexes = [0]
    for known in partial:
        grades = ALL_GRADES if known is None else (known,)
        indexes = [index * len(ALL_GRADES) + grade for index in indexes for grade in grades]
    return indexes
