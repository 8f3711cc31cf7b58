"""Branching numbers of trees, and the forks that show them."""

from holdsalltrees.trees import subtree_at
from holdsalltrees.values import as_tuples


def branching_number(tree):
    """Return the branching number, also known as the Strahler number."""
    if not tree:
        return 1
    numbers = [branching_number(child) for child in tree]
    most = max(numbers)
    if numbers.count(most) == 1:
        return most
    return most + 1


def fork(tree, rows):
    """Return a fork with this number of rows, or None if there is none."""
    if branching_number(tree) < rows:
        return None
    return _fork_below(tree, rows, ())


def _fork_below(tree, rows, path):
    # The branching number of the tree, which stands at the path, is at least `rows`.
    if rows == 1:
        return (path,)
    numbers = [branching_number(child) for child in tree]
    for index, number in enumerate(numbers):
        if number >= rows:
            return _fork_below(tree[index], rows, path + (index,))
    left, right = [index for index, number in enumerate(numbers) if number == rows - 1][:2]
    return (
        path,
        _fork_below(tree[left], rows - 1, path + (left,)),
        _fork_below(tree[right], rows - 1, path + (right,)),
    )


def is_fork(tree, paper, rows):
    """Tell whether the paper is a fork of the tree with this number of rows."""
    return _is_fork_of(tree, as_tuples(paper), rows)


def _is_fork_of(tree, paper, rows):
    path = paper[0]
    if subtree_at(tree, path) is None:
        return False
    if rows == 1:
        return len(paper) == 1
    if len(paper) != 3:
        return False
    for part in paper[1:]:
        if len(part[0]) <= len(path) or part[0][: len(path)] != path:
            return False
        if not _is_fork_of(tree, part, rows - 1):
            return False
    return paper[1][0][len(path)] < paper[2][0][len(path)]
