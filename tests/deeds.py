"""Points 78 to 81 told once more: deeds to try, what they do, and whom they favour."""

from tests.test_games import fields
from holdsalltrees.games import Game


def whole(value):
    return isinstance(value, int) and not isinstance(value, bool)


def after_by_words(game, deed):
    """The fields of the game after the deed, or None if it is not possible."""
    if not isinstance(deed, (list, tuple)) or not deed:
        return None
    owners, priorities, rows = (list(part) for part in fields(game))
    rows = [list(row) for row in rows]
    word, items = deed[0], list(deed[1:])
    places = range(len(game))
    sizes = {"add": 2, "cut": 2, "level": 2, "give": 2, "grow": 3}
    if not isinstance(word, str) or sizes.get(word) != len(items):
        return None
    if not all(whole(item) for item in items[:2]):
        return None
    v, item = items[:2]
    if word == "grow":
        row = items[2]
        if not isinstance(row, (list, tuple)) or not all(whole(u) for u in row):
            return None
        row = list(row)
        if len(game) >= 12 or v not in (0, 1) or not 0 <= item <= 30:
            return None
        if not row or row != sorted(set(row)) or row[0] < 0 or row[-1] > len(game):
            return None
        return fields_of(owners + [v], priorities + [item], rows + [row])
    if v not in places:
        return None
    if word == "add" and item in places and item not in rows[v]:
        rows[v] = sorted(rows[v] + [item])
    elif word == "cut" and item in rows[v] and len(rows[v]) > 1:
        rows[v].remove(item)
    elif word == "level" and 0 <= item <= 30:
        priorities[v] = item
    elif word == "give" and item in (0, 1):
        owners[v] = item
    else:
        return None
    return fields_of(owners, priorities, rows)


def fields_of(owners, priorities, rows):
    return (tuple(owners), tuple(priorities), tuple(tuple(row) for row in rows))


# From the worst priority for player 0 to the best one.
BETTER = list(range(29, 0, -2)) + list(range(0, 31, 2))


def favours_by_words(game, deed):
    word, v = deed[:2]
    if word == "grow":
        return (True, True)
    if word == "level":
        old, new = BETTER.index(game.priorities[v]), BETTER.index(deed[2])
        return (old <= new, new <= old)
    if word == "give":
        return (True, True) if game.owners[v] == deed[2] else (deed[2] == 0, deed[2] == 1)
    owner = game.owners[v]
    return (owner == 0, owner == 1) if word == "add" else (owner == 1, owner == 0)


def drawn_deed(source, game, top=8):
    """A deed that is often possible."""
    count = len(game)
    v = source.randrange(-1, count + 1) if source.random() < 0.1 else source.randrange(max(count, 1))
    word = source.choice(("add", "add", "cut", "cut", "level", "give", "grow"))
    if word in ("add", "cut"):
        return (word, v, source.randrange(max(count, 1)))
    if word == "level":
        return (word, v, source.randint(0, top))
    if word == "give":
        return (word, v, source.randint(0, 1))
    row = tuple(sorted(source.sample(range(count + 1), source.randint(1, min(3, count + 1)))))
    return (word, source.randint(0, 1), source.randint(0, top), row)


def game_of(parts):
    return Game(*parts)
