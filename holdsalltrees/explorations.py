"""The arenas that programs describe."""

from holdsalltrees.arenas import Arena
from holdsalltrees.errors import TooManyStates
from holdsalltrees.programs import colour_of, owner_of, possible


class Exploration:
    """The states of a program, and the arena with a vertex for each of them."""

    def __init__(self, states, arena):
        self.states = states
        self.arena = arena


def explore(program, *, limit):
    """Return all states that can be reached from the first one, in the order in which they are found."""
    states = [tuple([cell[3] for cell in program.cells])]
    numbers = {states[0]: 0}
    rows = []
    while len(rows) < len(states):
        row = []
        moves = possible(program, states[len(rows)])
        for _, after in moves:
            if after not in numbers:
                if len(states) == limit:
                    raise TooManyStates(limit)
                numbers[after] = len(states)
                states.append(after)
            row.append(numbers[after])
        rows.append(sorted(set(row)) if row else [len(rows)])
    owners = [owner_of(program, state) for state in states]
    colours = "".join([colour_of(program, state) for state in states])
    return Exploration(tuple(states), Arena(owners, colours, rows))
