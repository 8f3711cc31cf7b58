"""Rankings from decompositions, and decompositions from rankings."""

from holdsalltrees.attractors import attractor
from holdsalltrees.decompositions import at_level, check_decomposition, drawn_to, vertices_of, without
from holdsalltrees.drawntrees import DrawnTree
from holdsalltrees.errors import NotRanking
from holdsalltrees.rankings import is_ranking
from holdsalltrees.trees import filled, leaf_paths


def ranking_of(game, decomposition):
    """Return a tree, and a ranking in it of the vertices of the decomposition."""
    paper = check_decomposition(game, decomposition)
    tree, groups = _ranked(game, paper, game.height)
    ranks = [None] * len(game)
    for leaf, group in enumerate(groups):
        for vertex in group:
            ranks[vertex] = leaf
    return (tree, tuple(ranks))


def _ranked(game, paper, level):
    # A full tree with the height of the level, and the vertices at each of its leaves.
    top, parts = paper
    vertices = vertices_of(paper)
    if level == 0:
        return ((), [vertices])
    groups = _by_distance(game, at_level(game, vertices, level), vertices)
    children = [filled((), level - 1) for _ in groups]
    rest = without(vertices, top)
    for part, pulled in parts:
        own = vertices_of(part)
        child, inner = _ranked(game, part, level - 1)
        # The vertices of the part itself have the distance 0.
        outer = _by_distance(game, own, rest)[1:]
        children.append(child)
        children.extend([filled((), level - 1) for _ in outer])
        groups = groups + inner + outer
        rest = without(rest, own + pulled)
    if not children:
        return (filled((), level), [()])
    return (tuple(children), groups)


def _by_distance(game, goal, within):
    # Each step of an attractor must fall, so each distance gets a place of its own.
    numbers = attractor(game, 0, goal, within=within)
    reached = [vertex for vertex in within if numbers[vertex] is not None]
    most = max([numbers[vertex] for vertex in reached], default=-1)
    return [[vertex for vertex in reached if numbers[vertex] == number] for number in range(most + 1)]


def decomposition_of(game, tree, ranks):
    """Return a decomposition of the vertices with ranks, whose tree the tree holds."""
    if not is_ranking(game, DrawnTree(tree, game.height), ranks):
        raise NotRanking()
    paths = leaf_paths(tree)
    places = {vertex: paths[rank] for vertex, rank in enumerate(ranks) if rank is not None}
    return _decomposed(game, places, sorted(list(places)), game.height)


def _decomposed(game, places, vertices, level):
    # All these vertices stand below one node with the height of the level.
    top = drawn_to(game, at_level(game, vertices, level), vertices)
    rest = without(vertices, top)
    depth = game.height - level
    parts = []
    while rest:
        # No vertex of the rest can fall below the first child, so its vertices are a trap.
        first = min([places[vertex][depth] for vertex in rest])
        own = tuple([vertex for vertex in rest if places[vertex][depth] == first])
        near = drawn_to(game, own, rest)
        parts.append((_decomposed(game, places, own, level - 1), without(near, own)))
        rest = without(rest, near)
    return (top, tuple(parts))
