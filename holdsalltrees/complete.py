"""Trees that hold all trees of a height with a number of leaves."""

from holdsalltrees.embeddings import holds
from holdsalltrees.trees import all_rows, tree_of_row


def least_missing(tree, leaves, depth):
    """Return the row of the first full tree that the tree does not hold, or None."""
    for row in all_rows(leaves, depth):
        if not holds(tree, tree_of_row(row, depth)):
            return row
    return None


def capacity(tree, depth):
    """Return the greatest number of leaves such that the tree holds all full trees with it."""
    # A full tree with fewer leaves is held by some full tree with one leaf more.
    many = 0
    while least_missing(tree, many + 1, depth) is None:
        many += 1
    return many


def pruned(tree, depth, many):
    """Return what leads to the nodes above this depth with at least `many` children, or None."""
    if depth == 1:
        return () if len(tree) >= many else None
    children = [pruned(child, depth - 1, many) for child in tree]
    remaining = [child for child in children if child is not None]
    if not remaining:
        return None
    return tuple(remaining)


def lower_number(leaves, depth):
    """Return a number of leaves that every complete tree has at least."""
    return _lower_number(leaves, depth, {})


def _lower_number(leaves, depth, known):
    if depth == 1:
        return leaves
    if (leaves, depth) not in known:
        parts = [_lower_number(leaves // many, depth - 1, known) for many in range(1, leaves + 1)]
        known[(leaves, depth)] = sum(parts)
    return known[(leaves, depth)]


def least_complete(leaves, depth):
    """Return the least row of a complete full tree with the fewest leaves."""
    size = lower_number(leaves, depth)
    while True:
        for row in all_rows(size, depth):
            if least_missing(tree_of_row(row, depth), leaves, depth) is None:
                return row
        size += 1
