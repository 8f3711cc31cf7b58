"""The sizes of universal trees."""

from math import comb

from holdsalltrees.halvings import parts_of_node, parts_of_row, plain_node
from holdsalltrees.values import log2


def universal_size(leaves, height, *, branching=None):
    """Return the number of leaves of the universal tree."""
    return _node_size(plain_node(leaves, height, branching), {})


def _node_size(node, sizes):
    if node[1] == 0:
        return 1
    return _parts_size(parts_of_node(node), sizes)


def _parts_size(parts, sizes):
    before, after, child = parts
    return _row_size(before, sizes) + _node_size(child, sizes) + _row_size(after, sizes)


def _row_size(row, sizes):
    # There are few different rows, but each of them occurs very often.
    parts = parts_of_row(row)
    if parts is None:
        return 0
    if row not in sizes:
        sizes[row] = _parts_size(parts, sizes)
    return sizes[row]


def size_bound(leaves, height, *, branching=None):
    """Return a number that the size is not greater than."""
    if height == 0:
        return 1
    halvings = log2(leaves)
    if branching is None:
        return leaves * comb(halvings + height - 1, height - 1)
    turns = min(branching, height + 1, halvings + 1) - 1
    return leaves * (1 << turns) * comb(height, turns) * comb(halvings + turns, turns)
