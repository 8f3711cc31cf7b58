"""The greatest decomposition whose tree a given tree holds."""

from holdsalltrees.basins import Basins


def decompose_by(game, tree):
    """Return the decomposition with the most vertices whose tree is held by the tree."""
    numbers = {}
    root = _shape_of(tree, numbers)
    shapes = [[(child, False) for child in children] for children in numbers]
    return Basins(game, shapes).decomposition(root, game.height, 0)


def _shape_of(tree, numbers):
    # Equal trees get one number, so that they are worked out once; the dict keeps their order.
    children = tuple([_shape_of(child, numbers) for child in tree])
    if children not in numbers:
        numbers[children] = len(numbers)
    return numbers[children]
