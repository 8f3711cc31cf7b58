"""The winner of each vertex of a game."""

from holdsalltrees.strategies import solved_game


def winners(game):
    """Return the player who wins from each vertex."""
    return solved_game(game)[0]
