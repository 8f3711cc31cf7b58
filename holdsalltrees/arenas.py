"""Arenas: games with colours in the place of priorities, and with objectives."""

from holdsalltrees.automata import automaton_of
from holdsalltrees.errors import BadVertex
from holdsalltrees.games import Game, are_successors
from holdsalltrees.objectives import is_colour
from holdsalltrees.strategies import solved_game
from holdsalltrees.values import as_tuples, is_number_to


class Arena:
    """An arena with an owner, a colour and successors for each vertex."""

    def __init__(self, owners, colours, successors):
        for vertex in range(len(owners)):
            if not (
                is_number_to(owners[vertex], 1)
                and is_colour(colours[vertex])
                and are_successors(successors[vertex], len(owners))
            ):
                raise BadVertex(vertex)
        self.owners = tuple(owners)
        self.colours = colours
        self.successors = as_tuples(successors)

    def __len__(self):
        return len(self.owners)


class ObjectiveGame:
    """The product of an arena and an automaton, as a game with a state for each vertex."""

    def __init__(self, game, states, starts):
        self.game = game
        self.states = states
        self.starts = starts


def objective_game(arena, objective):
    """Return the product of the arena and the automaton of the objective."""
    colours = "".join(sorted(set(arena.colours)))
    automaton = automaton_of(objective, colours)
    steps = {}
    priorities = {}
    work = [(vertex, 0) for vertex in range(len(arena))]
    while work:
        state = work.pop()
        if state in steps:
            continue
        vertex, memory = state
        after, priority = automaton.rows[memory][colours.index(arena.colours[vertex])]
        priorities[state] = priority
        steps[state] = [(goal, after) for goal in arena.successors[vertex]]
        work.extend(steps[state])
    states = sorted(list(steps))
    numbers = {state: number for number, state in enumerate(states)}
    game = Game(
        [arena.owners[vertex] for vertex, memory in states],
        [priorities[state] for state in states],
        [[numbers[goal] for goal in steps[state]] for state in states],
    )
    starts = tuple([numbers[(vertex, 0)] for vertex in range(len(arena))])
    return ObjectiveGame(game, tuple(states), starts)


def arena_winners(arena, objective):
    """Return the player who wins from each vertex of the arena."""
    # Without a colour there is no automaton.
    if len(arena) == 0:
        return ()
    product = objective_game(arena, objective)
    winners = solved_game(product.game)[0]
    return tuple([winners[start] for start in product.starts])


def arena_plan(arena, objective, player):
    """Return a memory plan of the player for all states that the player owns and wins."""
    if len(arena) == 0:
        return ()
    product = objective_game(arena, objective)
    winners, moves = solved_game(product.game)
    entries = []
    for number, state in enumerate(product.states):
        if winners[number] == player and product.game.owners[number] == player:
            entries.append((state, product.states[moves[number]][0]))
    return tuple(entries)
