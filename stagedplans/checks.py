"""Checks of values that several modules share. Each of them takes any value."""


def is_integer(value):
    """Tell whether a value is an integer; True and False are none."""
    return isinstance(value, int) and not isinstance(value, bool)


def is_from(value, low):
    """Tell whether a value is an integer from low on."""
    return is_integer(value) and value >= low


def is_within(value, low, high):
    """Tell whether a value is an integer from low to high."""
    return is_integer(value) and low <= value <= high


def is_index(value, many):
    """Tell whether a value is the index of one of so many things."""
    return is_within(value, 0, many - 1)


def is_tuple_of(value, many):
    """Tell whether a value is a tuple of so many elements."""
    return isinstance(value, tuple) and len(value) == many


def are_integers(value, many):
    """Tell whether a value is a tuple of so many integers."""
    return is_tuple_of(value, many) and all([is_integer(item) for item in value])


def is_filled_tuple(value):
    """Tell whether a value is a tuple with an element at least."""
    return isinstance(value, tuple) and len(value) > 0
