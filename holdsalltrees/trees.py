"""Ordered trees: their leaves, full trees, and the rows of full trees."""

from holdsalltrees.errors import BadRow, NotFull, TooHigh
from holdsalltrees.values import is_whole


def tree_height(tree):
    """Return the greatest depth of a node."""
    if not tree:
        return 0
    return 1 + max([tree_height(child) for child in tree])


def leaf_count(tree):
    """Return the number of leaves."""
    if not tree:
        return 1
    return sum([leaf_count(child) for child in tree])


def leaf_paths(tree):
    """Return the paths of all leaves, from left to right."""
    return tuple(_paths_below(tree, ()))


def _paths_below(tree, path):
    if not tree:
        return [path]
    found = []
    for index, child in enumerate(tree):
        found.extend(_paths_below(child, path + (index,)))
    return found


def subtree_at(tree, path):
    """Return the subtree that the path leads to, or None if it leads nowhere."""
    for index in path:
        if not 0 <= index < len(tree):
            return None
        tree = tree[index]
    return tree


def is_full(tree, depth):
    """Tell whether all leaves have this depth."""
    return all([len(path) == depth for path in leaf_paths(tree)])


def filled(tree, depth):
    """Return the tree with a chain down to this depth below each leaf."""
    height = tree_height(tree)
    if height > depth:
        raise TooHigh(height)
    return _filled_below(tree, depth)


def _filled_below(tree, depth):
    if depth == 0:
        return ()
    if not tree:
        return (_filled_below((), depth - 1),)
    return tuple([_filled_below(child, depth - 1) for child in tree])


def shared_items(one, two):
    """Return the number of leading items that the paths of two leaves have in common."""
    # No leaf stands below another one, so the paths part before one of them ends.
    count = 0
    while one[count] == two[count]:
        count += 1
    return count


def row_of(tree, depth):
    """Return the row of a tree that is full for this height."""
    paths = leaf_paths(tree)
    for leaf, path in enumerate(paths):
        if len(path) != depth:
            raise NotFull(leaf)
    return tuple([depth - shared_items(paths[leaf], paths[leaf + 1]) for leaf in range(len(paths) - 1)])


def tree_of_row(row, depth):
    """Return the full tree of this height with this row."""
    for index, number in enumerate(row):
        if not is_whole(number) or not 1 <= number <= depth:
            raise BadRow(index)
    return _grown_from(row, depth)


def _grown_from(row, depth):
    if depth == 0:
        return ()
    children = []
    begin = 0
    for index, number in enumerate(row):
        # Two leaves that share nothing stand below different children.
        if number == depth:
            children.append(_grown_from(row[begin:index], depth - 1))
            begin = index + 1
    children.append(_grown_from(row[begin:], depth - 1))
    return tuple(children)


def all_rows(leaves, depth):
    """Yield the rows of all full trees of this height with this number of leaves, in order."""
    if depth == 0 and leaves > 1:
        return
    row = [1] * (leaves - 1)
    place = 0
    while place >= 0:
        yield tuple(row)
        place = leaves - 2
        while place >= 0 and row[place] == depth:
            row[place] = 1
            place -= 1
        if place >= 0:
            row[place] += 1
