"""Verdicts: who wins each vertex, with papers for both players."""

from holdsalltrees.climbing import climb
from holdsalltrees.rankings import plan_of_ranking
from holdsalltrees.universals import UniversalTree


class Verdict:
    """The winners of a game, and for each player a ranking in a universal tree and a plan."""

    def __init__(self, winners, orders, rankings, plans):
        self.winners = winners
        self.orders = orders
        self.rankings = rankings
        self.plans = plans


def verdict(game):
    """Return the verdict on the game."""
    count = max(1, len(game))
    sides = (game, game.turned())
    orders = tuple([UniversalTree(count, side.height) for side in sides])
    rankings = tuple([climb(side, order) for side, order in zip(sides, orders)])
    plans = [plan_of_ranking(sides[player], orders[player], rankings[player]) for player in range(2)]
    winners = [1 if rank is None else 0 for rank in rankings[0]]
    return Verdict(tuple(winners), orders, rankings, tuple(plans))
