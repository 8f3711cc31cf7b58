"""Deeds, which change a game, and whom they favour."""

from holdsalltrees.errors import BadDeed
from holdsalltrees.games import GREATEST_PRIORITY, Game, are_successors
from holdsalltrees.values import as_tuples, is_number_to

MOST_VERTICES = 12


# Each action takes the items behind the first one, and returns the game after the deed, or
# None if they are not as they have to be.


def _add(game, items):
    if not _are_numbers_to(items, (len(game) - 1, len(game) - 1)):
        return None
    vertex, goal = items
    row = game.successors[vertex]
    return None if goal in row else _with_row(game, vertex, sorted(row + (goal,)))


def _cut(game, items):
    if not _are_numbers_to(items, (len(game) - 1, len(game) - 1)):
        return None
    vertex, goal = items
    row = game.successors[vertex]
    if goal not in row or len(row) == 1:
        return None
    return _with_row(game, vertex, [other for other in row if other != goal])


def _level(game, items):
    if not _are_numbers_to(items, (len(game) - 1, GREATEST_PRIORITY)):
        return None
    return Game(game.owners, _put(game.priorities, items[0], items[1]), game.successors)


def _give(game, items):
    if not _are_numbers_to(items, (len(game) - 1, 1)):
        return None
    return Game(_put(game.owners, items[0], items[1]), game.priorities, game.successors)


def _grow(game, items):
    count = len(game) + 1
    if len(items) != 3 or not _are_numbers_to(items[:2], (1, GREATEST_PRIORITY)):
        return None
    if count > MOST_VERTICES or not are_successors(items[2], count):
        return None
    return Game(game.owners + (items[0],), game.priorities + (items[1],), game.successors + (items[2],))


def _are_numbers_to(items, mosts):
    # Whether these are as many whole numbers, none greater than its bound.
    return len(items) == len(mosts) and all([is_number_to(item, most) for item, most in zip(items, mosts)])


def _with_row(game, vertex, row):
    return Game(game.owners, game.priorities, _put(game.successors, vertex, row))


def _put(items, place, item):
    return items[:place] + (item,) + items[place + 1 :]


ACTIONS = {"add": _add, "cut": _cut, "level": _level, "give": _give, "grow": _grow}


def after_deed(game, deed):
    """Return the game after the deed."""
    told = as_tuples(deed)
    if not isinstance(told, tuple) or not told or not isinstance(told[0], str) or told[0] not in ACTIONS:
        raise BadDeed()
    action = ACTIONS[told[0]]
    after = action(game, told[1:])
    if after is None:
        raise BadDeed()
    return after


def favours(game, deed):
    """Return whether the deed favours player 0, and whether it favours player 1."""
    after = after_deed(game, deed)
    word, vertex = deed[:2]
    if word == "level":
        old = _worth(game.priorities[vertex])
        new = _worth(after.priorities[vertex])
        return (new >= old, new <= old)
    if word == "grow" or (word == "give" and after.owners == game.owners):
        return (True, True)
    # A vertex that is given away was the other player's.
    player = game.owners[vertex] if word == "add" else 1 - game.owners[vertex]
    return (player == 0, player == 1)


def _worth(priority):
    # Greater numbers are better for player 0.
    return priority if priority % 2 == 0 else -priority
