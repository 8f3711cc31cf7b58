"""The least ranking."""

from holdsalltrees.drawntrees import DrawnTree
from holdsalltrees.rankings import check_height
from holdsalltrees.strategies import origins_of
from holdsalltrees.trees import tree_of_row
from holdsalltrees.universals import UniversalTree
from holdsalltrees.values import as_tuples


def climb(game, order, *, start=None):
    """Return the least ranking of the game in the leaf order that is not below the start."""
    check_height(game, order)
    begin = [order.first] * len(game) if start is None else as_tuples(start)
    if not isinstance(order, UniversalTree):
        return tuple(_climbed(game, order, begin))
    # Indexes of leaves are compared much faster than codes.
    codes = list(order.codes())
    places = {code: place for place, code in enumerate(codes)}
    drawn = DrawnTree(tree_of_row(_row_of_codes(codes, order.height), order.height), order.height)
    ranks = _climbed(game, drawn, [None if code is None else places[code] for code in begin])
    return tuple([None if rank is None else codes[rank] for rank in ranks])


def _row_of_codes(codes, height):
    row = []
    for place in range(len(codes) - 1):
        alike = 0
        while codes[place][alike] == codes[place + 1][alike]:
            alike += 1
        row.append(height - alike)
    return row


def _climbed(game, order, begin):
    # Here ranks are indexes, and the one after the last stands for no rank, which is greater than all.
    ranks = [order.size if rank is None else rank for rank in begin]
    origins = origins_of(game.successors)
    work = list(range(len(game)))
    waiting = [True] * len(game)
    while work:
        vertex = work.pop()
        waiting[vertex] = False
        rank = _lifted(game, order, ranks, vertex)
        if rank > ranks[vertex]:
            ranks[vertex] = rank
            for origin in origins[vertex]:
                if not waiting[origin]:
                    waiting[origin] = True
                    work.append(origin)
    return [None if rank == order.size else rank for rank in ranks]


def _lifted(game, order, ranks, vertex):
    # The least rank that the ranks of the successors leave to the vertex.
    needs = []
    for goal in game.successors[vertex]:
        need = None
        if ranks[goal] < order.size:
            need = order.needed(ranks[goal], game.priorities[vertex])
        needs.append(order.size if need is None else need)
    return min(needs) if game.owners[vertex] == 0 else max(needs)
