"""Why a watcher is not right, and what a game is worth under a watcher."""

from holdsalltrees.drawntrees import DrawnTree
from holdsalltrees.errors import TooFewPriorities
from holdsalltrees.strategies import solved
from holdsalltrees.trees import all_rows, tree_of_row
from holdsalltrees.unfolding import Unfolding
from holdsalltrees.watcherwalks import lost_sequence


class Fault:
    """A reason why a watcher is not right, or that there is none."""

    def __init__(self, kind, lead, ring, tree, walk):
        self.kind = kind
        self.lead = lead
        self.ring = ring
        self.tree = tree
        self.walk = walk


def watcher_fault(watcher, vertices):
    """Return a reason why the watcher is not right for this number of vertices."""
    lost = lost_sequence(watcher)
    if lost is not None:
        return Fault("lets", lost[0], lost[1], None, ())
    height = watcher.priorities // 2
    # What a tree with fewer leaves shows, some tree with all of them shows, too.
    leaves = 1 if height == 0 else vertices
    for row in all_rows(leaves, height):
        tree = tree_of_row(row, height)
        walk = _stopped_walk(watcher, DrawnTree(tree, height))
        if walk is not None:
            return Fault("stops", (), (), tree, walk)
    return Fault("none", (), (), None, ())


def _stopped_walk(watcher, order):
    # A greater leaf allows all that a lesser one does. So a walk that always goes on to
    # the greatest leaf that is allowed may read all that any other walk may read.
    first = (order.last, watcher.start)
    walks = {first: ()}
    work = [first]
    while work:
        place = work.pop()
        leaf, state = place
        for priority, goal in enumerate(watcher.rows[state]):
            kept = order.kept(leaf, priority)
            if kept is None:
                continue
            walk = walks[place] + ((leaf, priority),)
            if goal is None:
                return walk
            if (kept, goal) not in walks:
                walks[(kept, goal)] = walk
                work.append((kept, goal))
    return None


def kept_vertices(game, watcher):
    """Return the vertices from which player 0 can play on for ever without being stopped."""
    if game.top >= watcher.priorities:
        raise TooFewPriorities(watcher.priorities)
    # A play that is stopped stays where it is, with a priority that is good for player 1.
    graph = Unfolding([(vertex, watcher.start) for vertex in range(len(game))])
    node = graph.unsettled()
    while node is not None:
        vertex, state = node
        after = watcher.rows[state][game.priorities[vertex]]
        if after is None:
            graph.settle(1, 1, [node])
        else:
            graph.settle(game.owners[vertex], 0, [(goal, after) for goal in game.successors[vertex]])
        node = graph.unsettled()
    winners = solved(graph.owners, graph.priorities, graph.rows)[0]
    return tuple([vertex for vertex in range(len(game)) if winners[vertex] == 0])
