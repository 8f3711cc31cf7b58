"""Kinds of values: whole numbers, and sequences that are tuples at every level."""


def as_tuples(value):
    """Return the value with tuples in the place of lists, at every level."""
    if isinstance(value, (list, tuple)):
        return tuple([as_tuples(item) for item in value])
    return value


def is_whole(value):
    """Tell whether the value is a whole number; True and False are none."""
    return isinstance(value, int) and not isinstance(value, bool)


def is_number_to(value, most):
    """Tell whether the value, of any kind, is a whole number from 0 to `most`."""
    return is_whole(value) and 0 <= value <= most


def log2(number):
    """Return the greatest whole number e with 2 ** e <= number."""
    return number.bit_length() - 1
