"""Register games: who wins them, and how."""

from holdsalltrees.numbering import numbers
from holdsalltrees.registers import choices, start_row
from holdsalltrees.rounds import move_node, position_node, round_graph, which_of
from holdsalltrees.strategies import solved


class RegisterVerdict:
    """The vertices that player 0 wins with some registers, with papers for both players."""

    def __init__(self, won, plan, answer):
        self.won = won
        self.plan = plan
        self.answer = answer


def register_verdict(game, registers):
    """Return the verdict on the register game with this number of registers."""
    row = start_row(game, registers)
    graph = round_graph(game, [(vertex, row) for vertex in range(len(game))], None)
    winners, moves = solved(graph.owners, graph.priorities, graph.rows)
    # The first nodes are those of the vertices with the start row.
    won = [vertex for vertex in range(len(game)) if winners[vertex] == 0]
    lost = [vertex for vertex in range(len(game)) if winners[vertex] == 1]
    plan = _plan_from(game, graph, moves, [(vertex, row) for vertex in won])
    answer = _answer_from(game, graph, moves, [(vertex, row) for vertex in lost])
    return RegisterVerdict(tuple(won), plan, answer)


def _next_node(graph, moves, node):
    return graph.nodes[moves[graph.place_of(node)]]


def _plan_from(game, graph, moves, positions):
    entries = {}
    work = list(positions)
    while work:
        place = work.pop()
        if place in entries:
            continue
        vertex = place[0]
        choice = _next_node(graph, moves, position_node(game, vertex, place[1]))
        steps = game.successors[vertex]
        step = None
        if game.owners[vertex] == 0:
            step = _next_node(graph, moves, move_node(vertex, choice[2]))[1]
            steps = [step]
        entries[place] = (which_of(choice), step)
        work.extend([(goal, choice[2]) for goal in steps])
    return in_order(entries)


def in_order(entries):
    """Return the entries in the order of their positions."""
    return tuple([(place, entries[place]) for place in sorted(list(entries))])


def _answer_from(game, graph, moves, positions):
    entries = {}
    seen = {}
    work = list(positions)
    while work:
        vertex, row = work.pop()
        node = position_node(game, vertex, row)
        if node in seen:
            continue
        seen[node] = True
        for choice in choices(node[2], game.priorities[vertex]):
            after = choice[1]
            steps = game.successors[vertex]
            if game.owners[vertex] == 1:
                step = _next_node(graph, moves, move_node(vertex, after))[1]
                entries[(vertex, after)] = step
                steps = [step]
            work.extend([(goal, after) for goal in steps])
    return in_order(entries)


def register_wins(game, vertex, row):
    """Tell whether player 0 wins the register game from the position."""
    graph = round_graph(game, [(vertex, row)], None)
    return solved(graph.owners, graph.priorities, graph.rows)[0][0] == 0


def fewest_registers(game):
    """Return the least number of registers with which player 0 wins, or None, for each vertex."""
    # A fact of the document: this is the number of the vertex.
    return tuple([number if player == 0 else None for player, number in numbers(game)])
