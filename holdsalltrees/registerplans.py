"""Register plans and register answers are judged here."""

from holdsalltrees.registers import emptied, loses, raised, signal, start_row
from holdsalltrees.rounds import round_graph
from holdsalltrees.strategies import solved
from holdsalltrees.unfolding import Unfolding
from holdsalltrees.values import as_tuples


def is_register_plan(game, registers, vertices, plan):
    """Tell whether the register plan wins from these vertices."""
    entries = _table_of(plan)
    if entries is None:
        return False
    row = start_row(game, registers)
    graph = Unfolding([(vertex, row) for vertex in vertices])
    place = graph.unsettled()
    while place is not None:
        if place not in entries or not _settled_by_plan(graph, game, place, entries[place]):
            return False
        place = graph.unsettled()
    # Player 0 has chosen already, so player 1 makes all moves.
    return _all_won(graph, vertices, 0)


def _table_of(entries):
    # What the entries say, by their positions; None if a position stands in two entries.
    found = {}
    for place, said in as_tuples(entries):
        if place in found:
            return None
        found[place] = said
    return found


def _settled_by_plan(graph, game, place, said):
    vertex, row = place
    which, step = said
    priority = game.priorities[vertex]
    row = raised(row, priority)
    if not 0 <= which <= len(row) or loses(row, which):
        return False
    steps = game.successors[vertex]
    if game.owners[vertex] == 0:
        if step not in steps:
            return False
        steps = [step]
    elif step is not None:
        return False
    value = 0
    if which > 0:
        value, row = emptied(row, which, priority)
    graph.settle(1, signal(which, value), [(goal, row) for goal in steps])
    return True


def _all_won(graph, vertices, player):
    # The first nodes are those of the vertices.
    winners = solved(graph.owners, graph.priorities, graph.rows)[0]
    return winners[: len(vertices)] == (player,) * len(vertices)


def is_register_answer(game, registers, vertices, answer):
    """Tell whether the register answer wins from these vertices against every choice."""
    entries = _table_of(answer)
    if entries is None:
        return False
    row = start_row(game, registers)
    graph = round_graph(game, [(vertex, row) for vertex in vertices], entries)
    return graph is not None and _all_won(graph, vertices, 1)
