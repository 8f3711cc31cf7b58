"""The trees that are hidden in watchers."""

from holdsalltrees.errors import LetsLost
from holdsalltrees.walks import walks_from
from holdsalltrees.watcherwalks import lost_sequence, steps_below, watcher_walks


def watcher_tree(watcher):
    """Return a full tree, and for each state of the watcher that can be reached a leaf of it."""
    if lost_sequence(watcher) is not None:
        raise LetsLost()
    states = sorted(list(watcher_walks(watcher)))
    tree, groups = _tree_of(watcher, states, watcher.priorities // 2)
    leaves = [None] * len(watcher.rows)
    for leaf, group in enumerate(groups):
        for state in group:
            leaves[state] = leaf
    return (tree, tuple(leaves))


def _tree_of(watcher, states, level):
    # A full tree with the height of the level, and the states at each of its leaves.
    if level == 0:
        return ((), [states])
    children = []
    groups = []
    for part in _parts_of(watcher, states, 2 * level):
        child, inner = _tree_of(watcher, part, level - 1)
        children.append(child)
        groups.extend(inner)
    return (tuple(children), groups)


def _parts_of(watcher, states, most):
    # States share a part if each can be reached from the other one within these states, by
    # priorities less than `most`. No step leads to a later part; and no step with the
    # priority `most - 1` stays in a part, since then a play that player 1 wins is let through.
    inside = set(states)
    steps = []
    for row in steps_below(watcher, most):
        steps.append([step for step in row if step[1] in inside])
    parts = {}
    for state in states:
        reach = tuple(sorted(list(walks_from(steps, state))))
        parts.setdefault(reach, []).append(state)
    # Whoever can reach another part reaches more.
    order = sorted(list(parts), key=lambda nodes: (len(nodes), nodes))
    return [parts[reach] for reach in order]
