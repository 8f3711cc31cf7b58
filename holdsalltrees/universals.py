"""Universal trees, whose leaves are ranks with codes."""

from holdsalltrees.errors import TooLarge
from holdsalltrees.halvings import (
    code_beside,
    end_code,
    head_before,
    is_code,
    nodes_along,
    parts_of_node,
    parts_of_row,
    plain_node,
)
from holdsalltrees.sizes import universal_size

MOST_LEAVES = 2000


class UniversalTree:
    """A universal tree that is not built, as a leaf order."""

    def __init__(self, leaves, height, *, branching=None):
        self.leaves = leaves
        self.height = height
        self.branching = branching
        self._root = plain_node(leaves, height, branching)
        self.size = universal_size(leaves, height, branching=branching)
        self.first = end_code(self._root, 0)
        self.last = end_code(self._root, 1)

    def __contains__(self, value):
        return is_code(self._root, value)

    def after(self, code):
        """Return the code of the next leaf, or None."""
        return code_beside(self._root, tuple(code), 1)

    def before(self, code):
        """Return the code of the previous leaf, or None."""
        return code_beside(self._root, tuple(code), 0)

    def less(self, one, two):
        """Tell whether the first leaf comes before the second one."""
        return head_before(one, two)

    def codes(self):
        """Yield the codes of all leaves, in order."""
        code = self.first
        while code is not None:
            yield code
            code = self.after(code)

    def grown(self):
        """Return the tree itself."""
        if self.size > MOST_LEAVES:
            raise TooLarge(self.size)
        return _grown_node(self._root)

    def allows(self, rank, priority, other):
        """Tell whether a vertex with the rank and the priority may go on to the other rank."""
        head = self._head(rank, priority)
        goal = self._head(other, priority)
        if head == goal:
            return priority % 2 == 0
        return head_before(goal, head)

    def needed(self, rank, priority):
        """Return the least rank that allows this one with the priority, or None."""
        head = self._head(rank, priority)
        if priority % 2 == 1:
            return code_beside(self._root, head, 1)
        return head + end_code(nodes_along(self._root, head)[-1], 0)

    def kept(self, rank, priority):
        """Return the greatest rank that this one allows with the priority, or None."""
        head = self._head(rank, priority)
        if priority % 2 == 1:
            return code_beside(self._root, head, 0)
        return head + end_code(nodes_along(self._root, head)[-1], 1)

    def _head(self, rank, priority):
        return tuple(rank)[: max(0, self.height - priority // 2)]


def _grown_node(node):
    if node[1] == 0:
        return ()
    return tuple(_grown_parts(parts_of_node(node)))


def _grown_parts(parts):
    if parts is None:
        return []
    before, after, child = parts
    return _grown_parts(parts_of_row(before)) + [_grown_node(child)] + _grown_parts(parts_of_row(after))
