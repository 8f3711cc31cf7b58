"""Automata: machines that read the colours of a play and give priorities."""

from holdsalltrees.errors import BadStart, BadState
from holdsalltrees.splittrees import split_tree
from holdsalltrees.trees import leaf_paths
from holdsalltrees.values import as_tuples, is_number_to

GREATEST_GIVEN = 20


class Automaton:
    """An automaton with a row for each state, and with a next state and a priority for each colour in a row."""

    def __init__(self, colours, rows, *, start=0):
        last = len(rows) - 1
        for state, row in enumerate(rows):
            right = [is_number_to(item[0], last) and is_number_to(item[1], GREATEST_GIVEN) for item in row]
            if len(row) != len(colours) or not all(right):
                raise BadState(state)
        if not is_number_to(start, last):
            raise BadStart(start)
        self.colours = colours
        self.rows = as_tuples(rows)
        self.start = start


def automaton_of(objective, colours):
    """Return the automaton of the split tree of the objective for these colours."""
    root = split_tree(objective, colours)
    paths = leaf_paths(_shape_of(root))
    most = max([len(path) for path in paths])
    if (most % 2 == 0) != objective.good(colours):
        most += 1
    rows = []
    for leaf in range(len(paths)):
        rows.append([_step(root, paths, leaf, most, colour) for colour in colours])
    return Automaton(colours, rows)


def _shape_of(node):
    return tuple([_shape_of(child) for child in node[1]])


def _step(root, paths, leaf, most, colour):
    # The next state and the priority that is given in the state of the leaf.
    path = paths[leaf]
    node = root
    depth = 0
    while depth < len(path) and colour in node[1][path[depth]][0]:
        node = node[1][path[depth]]
        depth += 1
    if depth == len(path):
        return (leaf, most - depth)
    after = (path[depth] + 1) % len(node[1])
    head = path[:depth] + (after,)
    below = [number for number, other in enumerate(paths) if other[: depth + 1] == head]
    return (below[0], most - depth)
