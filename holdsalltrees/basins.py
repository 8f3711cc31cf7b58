"""Basins: what player 0 can reach, or decompose by a tree.

A vertex set is written as a number here: its bit with the index `v` is 1 if the
vertex `v` is in the set.

The trees are given as shapes. A shape is an index of a sequence that has for
each shape its children in order, as pairs `(shape, again)`. If `again` is True,
the child is not one child but as many as are of use, one after the other.
"""


class Basins:
    """The basins of a game for a sequence of shapes."""

    def __init__(self, game, shapes):
        self.shapes = shapes
        self.owners = game.owners
        self.rows = [mask_of(row) for row in game.successors]
        vertices = list(range(len(game)))
        # For each level, the vertices with its even priority, and those with no greater one.
        self.peaks = []
        self.lows = []
        for level in range(game.height + 1):
            self.peaks.append([v for v in vertices if game.priorities[v] == 2 * level])
            self.lows.append(mask_of([v for v in vertices if game.priorities[v] <= 2 * level]))
        self._found = {}

    def basin(self, shape, level, goal):
        """Return the basin of a shape for a level and a goal."""
        place = (shape, level, goal)
        if place not in self._found:
            most = goal | self.lows[level]
            least = self._rounds(shape, level, goal, most)[-1][3]
            while least != most:
                most = least
                least = self._rounds(shape, level, goal, most)[-1][3]
            self._found[place] = least
        return self._found[place]

    def decomposition(self, shape, level, goal):
        """Return a decomposition of the basin without the goal."""
        rounds = self._rounds(shape, level, goal, self.basin(shape, level, goal))
        parts = []
        for child, before, inner, after in rounds[1:]:
            parts.append((self.decomposition(child, level - 1, before), vertices_in(after & ~inner)))
        return (vertices_in(rounds[0][3] & ~goal), tuple(parts))

    def _rounds(self, shape, level, goal, inside):
        # One row for the top, and one for each child that adds something: the child,
        # the set before it, its basin, and the attractor to that.
        peaks = [vertex for vertex in self.peaks[level] if self._can_enter(vertex, inside)]
        top = goal | mask_of(peaks)
        after = self._attractor(top, level)
        rounds = [(shape, goal, top, after)]
        children = self.shapes[shape] if level > 0 else ()
        for child, again in children:
            inner = self.basin(child, level - 1, after)
            while inner != after:
                before = after
                after = self._attractor(inner, level)
                rounds.append((child, before, inner, after))
                inner = self.basin(child, level - 1, after) if again else after
        return rounds

    def _can_enter(self, vertex, goal):
        # Whether player 0 can force the next vertex to be in the goal.
        row = self.rows[vertex]
        if self.owners[vertex] == 0:
            return row & goal != 0
        return row & ~goal == 0

    def _attractor(self, goal, level):
        # All successors of a vertex count, also those that are too high to be added.
        left = list(vertices_in(self.lows[level] & ~goal))
        grown = True
        while grown:
            found = [vertex for vertex in left if self._can_enter(vertex, goal)]
            grown = len(found) > 0
            goal = goal | mask_of(found)
            left = [vertex for vertex in left if not goal >> vertex & 1]
        return goal


def mask_of(vertices):
    """Return the number that stands for a vertex set."""
    mask = 0
    for vertex in vertices:
        mask = mask | 1 << vertex
    return mask


def vertices_in(mask):
    """Return the vertex set that a number stands for."""
    return tuple([vertex for vertex in range(mask.bit_length()) if mask >> vertex & 1])
