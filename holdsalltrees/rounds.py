"""The register game as a graph.

A round is told by three nodes: the position with the raised row, what player 0
chose (with the signal of the round as priority), and the pair of the vertex and
the row from which the owner of the vertex moves on. Only the second ones have
priorities above 0.
"""

from holdsalltrees.registers import choices, raised
from holdsalltrees.unfolding import Unfolding

POSITION = 0
CHOICE = 1
MOVE = 2


def position_node(game, vertex, row):
    """Return the node of a position. Positions with the same raised row are alike."""
    return (POSITION, vertex, raised(row, game.priorities[vertex]))


def choice_node(vertex, row, told):
    """Return the node of a choice, with the row after it and the signal."""
    return (CHOICE, vertex, row, told)


def move_node(vertex, row):
    """Return the node at which the owner of the vertex moves on."""
    return (MOVE, vertex, row)


def which_of(node):
    """Return the register that was emptied by a choice."""
    return node[3] // 2


def settle_round(graph, game, node, answers):
    """Settle a node of a graph of rounds, for player 0 to choose and both players to move.

    If there are answers, player 1 moves as they say; then False tells that one is missing or wrong.
    """
    vertex, row = node[1:3]
    if node[0] == POSITION:
        found = choices(row, game.priorities[vertex])
        graph.settle(0, 0, [choice_node(vertex, after, told) for which, after, told in found])
    elif node[0] == CHOICE:
        graph.settle(0, node[3], [move_node(vertex, row)])
    else:
        steps = game.successors[vertex]
        if answers is not None and game.owners[vertex] == 1:
            if answers.get((vertex, row)) not in steps:
                return False
            steps = [answers[(vertex, row)]]
        graph.settle(game.owners[vertex], 0, [position_node(game, step, row) for step in steps])
    return True


def round_graph(game, positions, answers):
    """Return the graph of all rounds that can follow from the positions, or None if an answer fails."""
    graph = Unfolding([position_node(game, vertex, row) for vertex, row in positions])
    node = graph.unsettled()
    while node is not None:
        if not settle_round(graph, game, node, answers):
            return None
        node = graph.unsettled()
    return graph
