"""Decompositions, and the plans that they give."""

from holdsalltrees.attractors import attractor, attractor_plan, is_trap
from holdsalltrees.branchings import branching_number
from holdsalltrees.errors import NotDecomposition
from holdsalltrees.values import as_tuples


def vertices_of(decomposition):
    """Return the set of all vertices of the decomposition."""
    return tuple(sorted(set(_all_vertices(decomposition))))


def _all_vertices(decomposition):
    # A vertex may stand in several sets.
    top, parts = decomposition
    found = list(top)
    for part, pulled in parts:
        found.extend(_all_vertices(part))
        found.extend(pulled)
    return found


def tree_of(decomposition):
    """Return the tree of the decomposition."""
    return tuple([tree_of(part) for part, pulled in decomposition[1]])


def is_decomposition(game, decomposition):
    """Tell whether the value is a decomposition of the game."""
    paper = as_tuples(decomposition)
    if not is_trap(game, 1, vertices_of(paper)):
        return False
    return _is_at_level(game, paper, game.height)


def _is_at_level(game, paper, level):
    # Here and below, a level is half of the even number in the document.
    top, parts = paper
    vertices = vertices_of(paper)
    if max([game.priorities[vertex] for vertex in vertices], default=0) > 2 * level:
        return False
    if top != drawn_to(game, at_level(game, vertices, level), vertices):
        return False
    # At the level 0 nothing is left for a part.
    rest = without(vertices, top)
    for part, pulled in parts:
        own = vertices_of(part)
        if not own or without(own, rest) or not is_trap(game, 1, own, within=rest):
            return False
        near = drawn_to(game, own, rest)
        if pulled != without(near, own) or not _is_at_level(game, part, level - 1):
            return False
        rest = without(rest, near)
    return not rest


def at_level(game, vertices, level):
    """Return those of the vertices that have the even priority of the level."""
    return tuple([vertex for vertex in vertices if game.priorities[vertex] == 2 * level])


def drawn_to(game, goal, within):
    """Return the attractor of player 0 to the goal as a vertex set."""
    numbers = attractor(game, 0, goal, within=within)
    return tuple([vertex for vertex, number in enumerate(numbers) if number is not None])


def without(vertices, others):
    """Return the vertices that are not among the others."""
    gone = set(others)
    return tuple([vertex for vertex in vertices if vertex not in gone])


def check_decomposition(game, decomposition):
    """Return the decomposition with tuples only, and raise an error if it is none of the game."""
    if not is_decomposition(game, decomposition):
        raise NotDecomposition()
    return as_tuples(decomposition)


def plan_of(game, decomposition):
    """Return a plan of player 0 that wins in the decomposition and stays there."""
    paper = check_decomposition(game, decomposition)
    steps = steps_of(game, paper, game.height)
    return tuple([steps[vertex][1] if vertex in steps else None for vertex in range(len(game))])


def steps_of(game, paper, level):
    """Return what player 0 does at each vertex of a right decomposition.

    It is a pair: the branching number of the innermost part if the vertex has
    the greatest priority that this part allows, otherwise 0; and the successor
    to which player 0 moves, or None if player 1 owns the vertex.
    """
    top, parts = paper
    vertices = vertices_of(paper)
    goal = at_level(game, vertices, level)
    number = branching_number(tree_of(paper))
    steps = _steps_towards(game, top, goal, vertices)
    for vertex in goal:
        inner = [step for step in game.successors[vertex] if step in vertices]
        steps[vertex] = (number, inner[0] if game.owners[vertex] == 0 else None)
    rest = without(vertices, top)
    for part, pulled in parts:
        own = vertices_of(part)
        steps.update(_steps_towards(game, pulled, own, rest))
        steps.update(steps_of(game, part, level - 1))
        rest = without(rest, own + pulled)
    return steps


def _steps_towards(game, vertices, goal, within):
    plan = attractor_plan(game, 0, goal, within=within)
    return {vertex: (0, plan[vertex]) for vertex in vertices}
