"""The winner of each vertex of a game."""

from holdsalltrees.strategies import solved


def winners(game):
    """Return the player who wins from each vertex."""
    return solved(game.owners, game.priorities, game.successors)[0]
