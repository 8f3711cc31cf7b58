"""Programs, which describe arenas with cells, moves and colours."""

from holdsalltrees.conditions import holds_for, term_value
from holdsalltrees.errors import BadProgram
from holdsalltrees.objectives import is_colour
from holdsalltrees.programlines import LineReader
from holdsalltrees.values import as_tuples

# Which lines may follow which; the empty word stands for the beginning.
LINES_AFTER = {
    "": ("cell",),
    "cell": ("cell", "even"),
    "even": ("colour", "move"),
    "colour": ("colour", "move"),
    "move": ("move",),
}
PLAIN_COLOUR = "a"


class Program:
    """A program that has been read."""

    def __init__(self, draft):
        self.cells = tuple(draft.cells)
        self.moves = tuple(draft.moves)
        self.even = draft.even
        # Pairs of a colour and a condition, and for each move a pair of a condition and changes.
        self.tints = tuple(draft.tints)
        self.rules = tuple(draft.rules)


class Draft:
    """What has been read of a program so far."""

    def __init__(self):
        self.kind = ""
        self.cells = []
        self.places = {}
        self.even = None
        self.tints = []
        self.moves = []
        self.rules = []

    def read_line(self, reader):
        """Read the next line."""
        kind = reader.take()
        reader.demand(kind in LINES_AFTER[self.kind])
        self.kind = kind
        if kind == "cell":
            self.read_cell(reader)
        elif kind == "even":
            reader.expect("when")
            self.even = reader.take_condition()
        elif kind == "colour":
            self.read_colour(reader)
        else:
            self.read_move(reader)
        reader.expect_end()

    def read_cell(self, reader):
        """Read what follows the word `cell`."""
        name = reader.take_name()
        reader.demand(name not in self.places)
        numbers = []
        for word in ("from", "to", "at"):
            reader.expect(word)
            numbers.append(reader.take_number())
        least, greatest, first = numbers
        reader.demand(least <= first <= greatest)
        self.places[name] = len(self.cells)
        self.cells.append((name, least, greatest, first))

    def read_colour(self, reader):
        """Read what follows the word `colour`."""
        colour = reader.take()
        reader.demand(is_colour(colour))
        reader.expect("when")
        self.tints.append((colour, reader.take_condition()))

    def read_move(self, reader):
        """Read what follows the word `move`."""
        name = reader.take_name()
        reader.demand(name not in self.moves)
        reader.expect("when")
        condition = reader.take_condition()
        reader.expect("do")
        self.moves.append(name)
        self.rules.append((condition, reader.take_changes()))


def read_program(text):
    """Return the program with this text."""
    lines = text.split("\n")
    # The piece behind the last newline is a line only if there is something in it.
    rest = lines.pop()
    draft = Draft()
    for line, words in enumerate(lines):
        draft.read_line(LineReader(words, line, draft.places))
    if rest != "" or draft.kind != "move":
        raise BadProgram(len(lines))
    return Program(draft)


def possible(program, state):
    """Return the name of each possible move with the state after it."""
    values = as_tuples(state)
    found = []
    for name, (condition, changes) in zip(program.moves, program.rules):
        if holds_for(condition, values):
            after = list(values)
            for place, term in changes:
                after[place] = term_value(term, values)
            # Only cells that are changed can leave their bounds.
            if all([cell[1] <= value <= cell[2] for cell, value in zip(program.cells, after)]):
                found.append((name, tuple(after)))
    return tuple(found)


def owner_of(program, state):
    """Return the owner of the state."""
    return 0 if holds_for(program.even, as_tuples(state)) else 1


def colour_of(program, state):
    """Return the colour of the state."""
    values = as_tuples(state)
    for colour, condition in program.tints:
        if holds_for(condition, values):
            return colour
    return PLAIN_COLOUR
