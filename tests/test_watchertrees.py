"""Points 61 and 62."""

from holdsalltrees.complete import least_complete, least_missing, lower_number
from holdsalltrees.errors import LetsLost
from holdsalltrees.faults import watcher_fault
from holdsalltrees.trees import is_full, leaf_count, tree_of_row
from holdsalltrees.universals import UniversalTree
from holdsalltrees.watchers import Watcher, watcher_of
from holdsalltrees.watchertrees import watcher_tree
from tests.machines import (
    changed_watcher, doubled_watcher, drawn_tree, drawn_watcher, even_watcher, full_trees_to, lets_lost, net_of,
    right_watcher, states_reached, watcher_fields,
)
from tests.support import Case, chain, has_list, seeded


def told(priorities, rows, start):
    return watcher_tree(Watcher(priorities, rows, start=start))


class WatcherTreeTests(Case):
    def judge(self, watcher):
        """The tree, or None if the watcher lets a lost play through."""
        before = watcher_fields(watcher)
        if lets_lost(watcher):
            self.refuses(LetsLost(), told, *before)
            self.refuses(LetsLost(), watcher_tree, watcher)
            return None
        found = self.ask(told, *before)
        self.same(watcher_tree(watcher), found)
        self.assertIsInstance(found, tuple)
        self.assertFalse(has_list(found))
        tree, leaves = found
        height = watcher.priorities // 2
        self.same(is_full(tree, height), True)
        self.assertEqual(len(leaves), len(watcher.rows))
        reached = states_reached(watcher)
        self.assertEqual({x for x, leaf in enumerate(leaves) if leaf is not None}, reached)
        self.assertEqual({leaf for leaf in leaves if leaf is not None}, set(range(leaf_count(tree))))
        self.assertFalse(any(isinstance(leaf, bool) for leaf in leaves))
        net = net_of(tree, height)
        for x in reached:
            for p, y in enumerate(watcher.rows[x]):
                if y is not None:
                    self.assertIn((leaves[x], p, leaves[y]), net)
        self.same(watcher_fields(watcher), before)
        return tree

    def test_watchers_of_trees(self):
        for height in range(1, 4):
            for tree in full_trees_to(4, height):
                for priorities in range(1, 2 * height + 2):
                    self.judge(watcher_of(tree, height, priorities))

    def test_drawn_watchers(self):
        source = seeded("trees of drawn watchers")
        lost = 0
        for _ in range(300):
            watcher = drawn_watcher(source, source.randint(1, 7), source.randint(1, 6), source.choice((0.3, 0.7, 0.9)))
            lost += self.judge(watcher) is None
        self.assertTrue(50 < lost < 250, lost)

    def test_even_watchers(self):
        source = seeded("trees of even watchers")
        for _ in range(200):
            priorities = source.randint(1, 6)
            watcher = even_watcher(source, source.randint(1, 10), priorities, source.choice((0, 0.1, 0.5)))
            self.assertIsNotNone(self.judge(watcher))
            self.judge(changed_watcher(source, watcher, 1))
            self.judge(doubled_watcher(source, watcher))

    def test_16_states_and_6_priorities(self):
        source = seeded("trees of large watchers")
        for stops in (0, 0.1, 0.5):
            for priorities in (5, 6):
                self.assertIsNotNone(self.judge(even_watcher(source, 16, priorities, stops)))
        self.judge(watcher_of(drawn_tree(source, 16, 3), 3, 6))
        falling = Watcher(6, [[state] + [state - 1 if state else None] * 5 for state in range(16)], start=15)
        self.same(leaf_count(self.judge(falling)), 16)

    def test_priorities_1(self):
        self.same(told(1, ((0,),), 0), ((), (0,)))
        self.same(told(1, ((None,),), 0), ((), (0,)))
        self.same(told(1, ((2,), (1,), (None,)), 0), ((), (0, None, 0)))
        self.same(told(1, ((2,), (1,), (None,)), 1), ((), (None, 0, None)))

    def test_a_watcher_that_stops_at_once(self):
        self.same(told(6, ((None,) * 6,), 0), (chain(3), (0,)))
        self.same(told(2, ((None, None), (0, 0)), 0), (((),), (0, None)))

    def test_lost_plays_that_cannot_be_reached(self):
        rows = ((0, 1), (0, None), (2, 2))
        self.same(self.judge(Watcher(2, rows)) is None, True)
        rows = ((0, 1), (1, None), (2, 2))
        self.same(self.ask(told, 2, rows, 0), (((), ()), (1, 0, None)))
        self.refuses(LetsLost(), told, 2, rows, 2)

    def test_complete_trees(self):
        # The first fact of point 62, and what follows from it.
        source = seeded("complete trees of watchers")
        for vertices, height in ((1, 1), (2, 1), (5, 1), (1, 2), (2, 2), (3, 2), (4, 2), (2, 3), (3, 3)):
            universal = UniversalTree(vertices, height).grown()
            for priorities in (2 * height, 2 * height + 1):
                watchers = [watcher_of(universal, height, priorities)]
                watchers.append(doubled_watcher(source, watchers[0]))
                if vertices ** height <= 9:
                    watchers.append(right_watcher(vertices, height, priorities))
                watchers += [changed_watcher(source, watchers[1], many) for many in (1, 1, 2, 2, 4)]
                for watcher in watchers:
                    if watcher_fault(watcher, vertices).kind == "none":
                        tree = self.judge(watcher)
                        self.same(least_missing(tree, vertices, height), None)
                        self.assertGreaterEqual(len(watcher.rows), lower_number(vertices, height))

    def test_least_complete_trees(self):
        for vertices, height in ((1, 1), (4, 1), (2, 2), (3, 2), (2, 3), (3, 3)):
            row = least_complete(vertices, height)
            watcher = watcher_of(tree_of_row(row, height), height, 2 * height)
            self.same(watcher_fault(watcher, vertices).kind, "none")
            tree = self.judge(watcher)
            self.same(leaf_count(tree), len(row) + 1)
            for start in range(len(row)):
                # With a lesser start the watcher has fewer states.
                few = Watcher(watcher.priorities, watcher.rows, start=start)
                self.same(watcher_fault(few, vertices).kind, "stops")
                self.assertIsNotNone(self.judge(few))
