"""Points 55 to 69 told once more: nets, even graphs, watchers to try, and what is right and wrong for them."""

import itertools
from functools import lru_cache

from holdsalltrees.drawntrees import DrawnTree
from holdsalltrees.trees import all_rows, tree_of_row
from holdsalltrees.watchers import Watcher, watcher_of
from tests.support import at, nodes_of


def row_fields(machine):
    return (machine.rows, machine.start)


def watcher_fields(watcher):
    return (watcher.priorities, watcher.rows, watcher.start)


def leaves_of(tree):
    return [path for path in nodes_of(tree) if at(tree, path) == ()]


def net_of(tree, height):
    """Whether the net has an edge (x, p, y), by the words of points 20 and 57."""
    paths = leaves_of(tree)
    edges = set()
    for p in range(2 * height + 1):
        heads = [path[: height - p // 2] for path in paths]
        for x, y in itertools.product(range(len(paths)), repeat=2):
            if heads[y] < heads[x] or (heads[y] == heads[x] and p % 2 == 0):
                edges.add((x, p, y))
    return edges


def full_trees_to(leaves, height):
    if height == 0:
        return [()]
    return [tree_of_row(row, height) for many in range(1, leaves + 1) for row in all_rows(many, height)]


# Watchers to try


def drawn_watcher(source, states, priorities, stops):
    """A watcher with steps of any kind; this share of its items stop."""
    rows = []
    for _ in range(states):
        rows.append([None if source.random() < stops else source.randrange(states) for _ in range(priorities)])
    return Watcher(priorities, rows, start=source.randrange(states))


def drawn_tree(source, leaves, height):
    row = [source.randint(1, height) for _ in range(leaves - 1)] if height else []
    return tree_of_row(row, height)


def even_watcher(source, states, priorities, stops):
    """A watcher that lets no lost play through: its steps are edges of a net, and several states share a leaf."""
    height = priorities // 2
    tree = drawn_tree(source, source.randint(1, states), height)
    order = DrawnTree(tree, height)
    leaves = [source.randrange(order.size) for _ in range(states)]
    rows = []
    for state in range(states):
        row = []
        for p in range(priorities):
            goals = [y for y in range(states) if order.allows(leaves[state], p, leaves[y])]
            row.append(source.choice(goals) if goals and source.random() >= stops else None)
        rows.append(row)
    return Watcher(priorities, rows, start=source.randrange(states))


def changed_watcher(source, watcher, many):
    """The watcher with some items changed."""
    rows = [list(row) for row in watcher.rows]
    for _ in range(many):
        row = source.choice(rows)
        row[source.randrange(len(row))] = source.choice([None] + list(range(len(rows))))
    return Watcher(watcher.priorities, rows, start=watcher.start)


def doubled_watcher(source, watcher):
    """A watcher that does the same with twice as many states, in another order."""
    count = len(watcher.rows)
    names = list(range(2 * count))
    source.shuffle(names)
    rows = [None] * (2 * count)
    for state in range(2 * count):
        row = watcher.rows[state % count]
        rows[names[state]] = [None if y is None else names[y + count * source.randint(0, 1)] for y in row]
    return Watcher(watcher.priorities, rows, start=names[watcher.start])


# Judges


def run(watcher, sequence, state=None):
    """The number of priorities that are read until the watcher stops, or None if it does not."""
    state = watcher.start if state is None else state
    for index, priority in enumerate(sequence):
        state = watcher.rows[state][priority]
        if state is None:
            return index + 1
    return None


def states_reached(watcher):
    found = {watcher.start}
    while True:
        more = {y for x in found for y in watcher.rows[x] if y is not None} - found
        if not more:
            return found
        found |= more


def lets_lost(watcher):
    """Whether a sequence with an odd dominant priority is let through: by closing the relation of all steps."""
    for p in range(1, watcher.priorities, 2):
        low = {(x, y) for x in states_reached(watcher) for y in watcher.rows[x][: p + 1] if y is not None}
        while True:
            more = {(x, z) for x, y in low for w, z in low if y == w} - low
            if not more:
                break
            low |= more
        for x in states_reached(watcher):
            y = watcher.rows[x][p]
            if y is not None and (x == y or (y, x) in low):
                return True
    return False


def stopped_walk_in(watcher, tree):
    """Whether the watcher stops some walk in the net of the tree: all leaves, all edges."""
    edges = [edge for edge in net_of(tree, watcher.priorities // 2) if edge[1] < watcher.priorities]
    return stops_on(watcher, edges, len(leaves_of(tree)))


def stops_on(watcher, edges, vertices):
    """Whether the watcher stops some walk on these edges; each of their ends has a next edge."""
    steps = {x: [(p, y) for v, p, y in edges if v == x] for x in range(vertices)}
    work = [(x, watcher.start) for x in range(vertices)]
    found = set(work)
    while work:
        x, state = work.pop()
        for p, y in steps[x]:
            goal = watcher.rows[state][p]
            if goal is None:
                return True
            if (y, goal) not in found:
                found.add((y, goal))
                work.append((y, goal))
    return False


def is_right(watcher, vertices):
    if lets_lost(watcher):
        return False
    trees = full_trees_to(vertices, watcher.priorities // 2)
    return not any(stopped_walk_in(watcher, tree) for tree in trees)


@lru_cache(None)
def even_graphs(vertices, priorities):
    """All even graphs to which no edge can be added."""
    edges = list(itertools.product(range(vertices), range(priorities), range(vertices)))
    found = []

    def grow(chosen, index):
        if index == len(edges):
            if not any(is_even(chosen | {edge}) for edge in edges if edge not in chosen):
                found.append(frozenset(chosen))
            return
        if is_even(chosen | {edges[index]}):
            grow(chosen | {edges[index]}, index + 1)
        grow(chosen, index + 1)

    grow(frozenset(), 0)
    return found


def is_even(edges):
    for x, p, y in edges:
        if p % 2 == 1:
            near = {y}
            while True:
                more = {w for v, q, w in edges if v in near and q <= p} - near
                if not more:
                    break
                near |= more
            if x in near:
                return False
    return True


def stops_in_graphs(watcher, vertices):
    """Whether the watcher stops an endless sequence on a path in an even graph: by the words of point 56."""
    # In a graph to which no edge can be added every path goes on for ever.
    return any(stops_on(watcher, graph, vertices) for graph in even_graphs(vertices, watcher.priorities))


def right_watcher(leaves, height, priorities):
    """A watcher that is right for this number of vertices, of the complete tree with all leaves in one row each."""
    tree = complete_tree(leaves, height)
    return watcher_of(tree, height, priorities)


def complete_tree(leaves, height):
    """A full tree that holds all full trees of this height with this number of leaves: every node has that many."""
    return () if height == 0 else (complete_tree(leaves, height - 1),) * leaves
