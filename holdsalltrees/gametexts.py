"""Games as texts."""

from holdsalltrees.errors import BadLine
from holdsalltrees.games import GREATEST_PRIORITY, Game

OWNERS = ("even", "odd")


def game_text(game):
    """Return the text of the game."""
    return "".join([_line_of(game, vertex) for vertex in range(len(game))])


def _line_of(game, vertex):
    owner = OWNERS[game.owners[vertex]]
    row = " ".join([str(goal) for goal in game.successors[vertex]])
    return f"{vertex} {owner} {game.priorities[vertex]} {row}\n"


def read_game(text):
    """Return the game with this text."""
    lines = text.split("\n")
    # The piece behind the last newline is a line only if there is something in it.
    rest = lines.pop()
    count = len(lines) if rest == "" else len(lines) + 1
    goals = _written_numbers(count)
    owners = []
    priorities = []
    successors = []
    for vertex, line in enumerate(lines):
        words = line.split(" ")
        row = [goals.get(word) for word in words[3:]]
        if not _is_begun(words, vertex) or not _ascends(row):
            raise BadLine(vertex)
        owners.append(OWNERS.index(words[1]))
        priorities.append(int(words[2]))
        successors.append(row)
    if rest != "":
        raise BadLine(count - 1)
    return Game(owners, priorities, successors)


def _written_numbers(count):
    # Words are looked up here, since a word of digits may be too long to be a number.
    return {str(number): number for number in range(count)}


def _is_begun(words, vertex):
    if len(words) < 4 or words[0] != str(vertex) or words[1] not in OWNERS:
        return False
    return words[2] in _written_numbers(GREATEST_PRIORITY + 1)


def _ascends(row):
    last = -1
    for goal in row:
        if goal is None or goal <= last:
            return False
        last = goal
    return True
