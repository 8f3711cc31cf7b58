"""The number of each vertex."""

from holdsalltrees.basins import Basins
from holdsalltrees.values import log2


def decompose(game, number):
    """Return a decomposition of all vertices of player 0 whose number is at most this one."""
    most = min(number, _greatest_number(game))
    return _branching_basins(game, most).decomposition(most, game.height, 0)


def numbers(game):
    """Return the winner and the number of each vertex."""
    answer = [None] * len(game)
    for player, side in enumerate((game, game.turned())):
        most = _greatest_number(side)
        basins = _branching_basins(side, most)
        for number in reversed(range(1, most + 1)):
            inside = basins.basin(number, side.height, 0)
            for vertex in range(len(game)):
                if inside >> vertex & 1:
                    answer[vertex] = (player, number)
    return tuple(answer)


def _greatest_number(game):
    # No vertex has a greater number.
    return min(game.height, log2(max(1, len(game)))) + 1


def _branching_basins(game, most):
    # The shape k stands for a tree that holds all trees of this branching number: its
    # child k has as many children of the shape k - 1 on both sides as are of use.
    shapes = [(), ((1, False),)]
    for number in range(2, most + 1):
        shapes.append(((number - 1, True), (number, False), (number - 1, True)))
    return Basins(game, shapes)
