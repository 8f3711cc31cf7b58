"""Colours, and objectives that say which sets of colours are good."""

# A colour set is written as a number, the sum of the bits of its colours.
COLOUR_BITS = {"a": 1, "b": 2, "c": 4, "d": 8, "e": 16}
# An objective is written as a table, a number with one bit for each colour set: it is 1 if the set is good.
SET_COUNT = 32
FULL_TABLE = 4294967295


class Objective:
    """An objective, which says which sets of colours that occur infinitely often are good for player 0."""

    def __init__(self, table):
        self.table = table

    @classmethod
    def inf(cls, colour):
        """Return the objective that this colour occurs infinitely often."""
        return cls(inf_table(colour))

    @classmethod
    def always(cls):
        """Return the objective for which all sets are good."""
        return cls(FULL_TABLE)

    @classmethod
    def never(cls):
        """Return the objective for which no set is good."""
        return cls(0)

    def __and__(self, other):
        return Objective(self.table & other.table)

    def __or__(self, other):
        return Objective(self.table | other.table)

    def __invert__(self):
        return Objective(FULL_TABLE ^ self.table)

    def __eq__(self, other):
        return isinstance(other, Objective) and self.table == other.table

    def good(self, colours):
        """Tell whether the colour set is good."""
        return self.table >> _place_of(colours) & 1 == 1

    @property
    def essential(self):
        """The set of the colours on which the objective depends."""
        return "".join([colour for colour in COLOUR_BITS if _depends(self.table, colour)])


def is_colour(word):
    """Tell whether the string is a colour."""
    return word in COLOUR_BITS


def inf_table(colour):
    """Return the table of the objective that this colour occurs infinitely often."""
    bit = _place_of(colour)
    return sum([1 << place for place in range(SET_COUNT) if place & bit])


def _place_of(colours):
    # The number of a colour set is the place of its bit in the tables.
    return sum([COLOUR_BITS[colour] for colour in colours])


def _depends(table, colour):
    # The table in which each set without the colour has the bit of the set with it.
    bit = _place_of(colour)
    without = FULL_TABLE ^ inf_table(colour)
    return (table >> bit & without) != (table & without)


def colour_sets(colours):
    """Return all subsets of a colour set: those with fewer colours first, then in alphabetical order."""
    found = [""]
    for colour in colours:
        found = found + [some + colour for some in found]
    return sorted(found, key=lambda some: (len(some), some))
