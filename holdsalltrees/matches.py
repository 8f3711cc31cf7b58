"""Matches against the package, and the plays that they contain."""

from holdsalltrees.errors import NoSuchMove, NotYourMove
from holdsalltrees.plays import check_walk
from holdsalltrees.strategies import solved_game


class Match:
    """A match on a game, in which the package plays for one player."""

    def __init__(self, game, start, *, player):
        self._game = game
        self._player = player
        self._winners, self._moves = solved_game(game)
        self.vertex = start
        self.log = (start,)
        self.to_move = game.owners[start]

    def answer(self):
        """Make a move for the player, and return the new vertex."""
        if self.to_move != self._player:
            raise NotYourMove(self.vertex)
        # The moves do not depend on the log. So a vertex that comes again closes a ring that the player wins.
        if self.promise():
            return self._move_to(self._moves[self.vertex])
        return self._move_to(self._game.successors[self.vertex][0])

    def go(self, successor):
        """Make a move for the other player, and return the new vertex."""
        if self.to_move == self._player:
            raise NotYourMove(self.vertex)
        if successor not in self._game.successors[self.vertex]:
            raise NoSuchMove(successor)
        return self._move_to(successor)

    def promise(self):
        """Tell whether the player wins from the vertex where the token is."""
        return self._winners[self.vertex] == self._player

    def _move_to(self, vertex):
        self.vertex = vertex
        self.log = self.log + (vertex,)
        self.to_move = self._game.owners[vertex]
        return vertex


def replay(game, log):
    """Return the lead and the ring of the shortest beginning of a log in which a vertex occurs twice, or None."""
    walk = tuple(log)
    check_walk(game, walk, walk[1:])
    for index, vertex in enumerate(walk):
        first = walk.index(vertex)
        if first < index:
            return (walk[:first], walk[first:index])
    return None
