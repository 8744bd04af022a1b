"""Checks of values that several modules share. Each of them takes any value.

Every question is checked by them, and there are thousands of questions, so they call nothing
that they need not call. True and False are integers to Python, but not here.
"""


def is_integer(value):
    """Tell whether a value is an integer; True and False are none."""
    return isinstance(value, int) and value is not True and value is not False


def is_from(value, low):
    """Tell whether a value is an integer from low on."""
    return isinstance(value, int) and value >= low and value is not True and value is not False


def is_within(value, low, high):
    """Tell whether a value is an integer from low to high."""
    return isinstance(value, int) and low <= value <= high and value is not True and value is not False


def is_index(value, many):
    """Tell whether a value is the index of one of so many things."""
    return isinstance(value, int) and 0 <= value < many and value is not True and value is not False


def is_tuple_of(value, many):
    """Tell whether a value is a tuple of so many elements."""
    return isinstance(value, tuple) and len(value) == many


def are_integers(value, many):
    """Tell whether a value is a tuple of so many integers."""
    if not isinstance(value, tuple) or len(value) != many:
        return False
    for item in value:
        if not isinstance(item, int) or item is True or item is False:
            return False
    return True


def is_filled_tuple(value):
    """Tell whether a value is a tuple with an element at least."""
    return isinstance(value, tuple) and len(value) > 0
