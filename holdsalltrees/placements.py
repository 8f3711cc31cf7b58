"""Placements of trees in universal trees."""

from holdsalltrees.branchings import branching_number
from holdsalltrees.errors import TooBranched, TooHigh, TooManyLeaves
from holdsalltrees.halvings import parts_of_node, parts_of_row, plain_node, word_before
from holdsalltrees.trees import filled, leaf_count, leaf_paths, shared_items, tree_height
from holdsalltrees.values import as_tuples


def placement(tree, universal):
    """Return a placement of the tree in the universal tree."""
    height = tree_height(tree)
    if height > universal.height:
        raise TooHigh(height)
    count = leaf_count(tree)
    if count > universal.leaves:
        raise TooManyLeaves(count)
    number = branching_number(tree)
    if universal.branching is not None and universal.branching < number:
        raise TooBranched(number)
    root = plain_node(universal.leaves, universal.height, universal.branching)
    return tuple(_placed(filled(tree, universal.height), root))


def _placed(tree, node):
    # The codes for a full tree of the height of the node, which has room for it.
    leaves, height, branching = node
    if height == 0:
        return [()]
    if branching is None:
        return _placed_in_row(tree, "", (leaves, height - 1, None))
    return _placed_around(tree, _heaviest(tree), "", parts_of_node(node))


def _placed_in_row(trees, word, row):
    # The trees have together at most as many leaves as the row is long.
    if not trees:
        return []
    middle = _tree_with_leaf(trees, row[0] // 2)
    parts = parts_of_row(row)
    if middle is None:
        return _placed_in_row(trees, word + "0", parts[0])
    return _placed_around(trees, middle, word, parts)


def _placed_around(trees, middle, word, parts):
    before, after, child = parts
    below = [(word,) + code for code in _placed(trees[middle], child)]
    left = _placed_in_row(trees[:middle], word + "0", before)
    return left + below + _placed_in_row(trees[middle + 1 :], word + "1", after)


def _tree_with_leaf(trees, leaf):
    # The index of the tree that contains this leaf of the sequence, or None.
    end = 0
    for index, tree in enumerate(trees):
        end += leaf_count(tree)
        if leaf < end:
            return index
    return None


def _heaviest(trees):
    numbers = [branching_number(tree) for tree in trees]
    return numbers.index(max(numbers))


def is_placement(tree, universal, codes):
    """Tell whether the codes are a placement of the tree in the universal tree."""
    if tree_height(tree) > universal.height:
        return False
    # In the filled tree the paths would be longer, but they would part at the same places.
    paths = leaf_paths(tree)
    spots = as_tuples(codes)
    if len(spots) != len(paths):
        return False
    for spot in spots:
        if spot not in universal:
            return False
    for index in range(len(paths) - 1):
        depth = shared_items(paths[index], paths[index + 1])
        if not _part_at(spots[index], spots[index + 1], depth):
            return False
    return True


def _part_at(one, two, depth):
    return one[:depth] == two[:depth] and word_before(one[depth], two[depth])
