"""Drawn trees: full trees whose leaves are ranks with indexes."""

from holdsalltrees.trees import row_of
from holdsalltrees.values import as_tuples


class DrawnTree:
    """The leaf order of a full tree."""

    def __init__(self, tree, height):
        self.row = row_of(tree, height)
        self.tree = as_tuples(tree)
        self.height = height
        self.size = len(self.row) + 1
        self.first = 0
        self.last = self.size - 1
        # For each leaf, the first and the last leaf with the same head; the
        # heads for the priorities 2 * level and 2 * level + 1 are the same.
        self._firsts = [_firsts_alike(self.row, level) for level in range(height + 1)]
        self._lasts = [_lasts_alike(self.row, level) for level in range(height + 1)]

    def less(self, one, two):
        """Tell whether the first leaf comes before the second one."""
        return one < two

    def allows(self, rank, priority, other):
        """Tell whether a vertex with the rank and the priority may go on to the other rank."""
        greatest = self.kept(rank, priority)
        return greatest is not None and other <= greatest

    def needed(self, rank, priority):
        """Return the least rank that allows this one with the priority, or None."""
        level = self._level(priority)
        if priority % 2 == 0:
            return self._firsts[level][rank]
        least = self._lasts[level][rank] + 1
        return least if least < self.size else None

    def kept(self, rank, priority):
        """Return the greatest rank that this one allows with the priority, or None."""
        level = self._level(priority)
        if priority % 2 == 0:
            return self._lasts[level][rank]
        greatest = self._firsts[level][rank] - 1
        return greatest if greatest >= 0 else None

    def _level(self, priority):
        return min(priority // 2, self.height)


def _firsts_alike(row, level):
    firsts = [0]
    for index, number in enumerate(row):
        firsts.append(firsts[index] if number <= level else index + 1)
    return firsts


def _lasts_alike(row, level):
    lasts = [len(row)]
    for index in reversed(range(len(row))):
        lasts.append(lasts[-1] if row[index] <= level else index)
    return lasts[::-1]
