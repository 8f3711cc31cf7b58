"""Terms and conditions of programs, as they are kept after they were read.

A term is a sequence of parts `(sign, place, number)`. The sign is 1 or -1, the place is
the index of a cell, and the number counts if the place is None. A test is a word with two
terms. A condition is a pair of a code, which tells how its tests are joined, and its tests.
"""

from holdsalltrees.connectives import joined


def term_value(term, values):
    """Return the value of the term if the cells have these values."""
    return sum([sign * (number if place is None else values[place]) for sign, place, number in term])


def holds_for(condition, values):
    """Tell whether the condition holds if the cells have these values."""
    code, tests = condition
    return joined(code, [1 if _is_met(test, values) else 0 for test in tests], 1) == 1


def _is_met(test, values):
    word, left, right = test
    if word == "true":
        return True
    one = term_value(left, values)
    two = term_value(right, values)
    if word == "=":
        return one == two
    return one < two if word == "<" else one > two
