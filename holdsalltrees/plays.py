"""Plays that repeat, who wins them, and plays against a plan."""

from holdsalltrees.errors import NotAPlay, PlanGap
from holdsalltrees.strategies import solved


def winner_of(game, lead, ring):
    """Return the player who wins the play."""
    walk = tuple(lead) + tuple(ring)
    check_walk(game, walk, walk[1:] + tuple(ring)[:1])
    if not ring:
        raise NotAPlay(len(walk))
    return max([game.priorities[vertex] for vertex in ring]) % 2


def check_walk(game, walk, steps):
    """Raise an error at the first number of a walk that is not a vertex, or from which no move leads to its step.

    The last number may have no step.
    """
    for index, vertex in enumerate(walk):
        if not 0 <= vertex < len(game):
            raise NotAPlay(index)
        if index < len(steps) and steps[index] not in game.successors[vertex]:
            raise NotAPlay(index)


def duel(game, first, second, start):
    """Return the play from the start in which the players follow these plans."""
    plans = (first, second)
    moves = []
    for vertex, row in enumerate(game.successors):
        step = plans[game.owners[vertex]][vertex]
        moves.append(row[0] if step is None else step)
    return _followed(moves, start)


def _followed(moves, start):
    # The play as a lead and a ring, if each vertex has one move.
    walk = []
    vertex = start
    while vertex not in walk:
        walk.append(vertex)
        vertex = moves[vertex]
    first = walk.index(vertex)
    return (tuple(walk[:first]), tuple(walk[first:]))


def losing_play(game, player, plan, start):
    """Return a play from the start that the plan of the player loses, or None."""
    rows = []
    for vertex, row in enumerate(game.successors):
        if game.owners[vertex] != player:
            rows.append(row)
        else:
            rows.append(() if plan[vertex] is None else (plan[vertex],))
    reached = _reached(rows, start)
    for vertex in reached:
        if not rows[vertex]:
            raise PlanGap(vertex)
    # Where the plan is not followed, any moves will do.
    rows = [row if row else game.successors[vertex] for vertex, row in enumerate(rows)]
    other = 1 - player
    found, moves = solved([other] * len(game), game.priorities, rows)
    for vertex in start:
        if found[vertex] == other:
            return _followed(moves, vertex)
    return None


def _reached(rows, start):
    # In ascending order.
    marks = [False] * len(rows)
    work = list(start)
    while work:
        vertex = work.pop()
        if not marks[vertex]:
            marks[vertex] = True
            work.extend(rows[vertex])
    return [vertex for vertex, mark in enumerate(marks) if mark]
