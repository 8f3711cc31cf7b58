"""Points 56, 57, 59 and 60."""

from holdsalltrees.complete import least_missing
from holdsalltrees.errors import TooFewPriorities
from holdsalltrees.faults import Fault, kept_vertices, watcher_fault
from holdsalltrees.games import Game
from holdsalltrees.solving import winners
from holdsalltrees.trees import is_full, leaf_count
from holdsalltrees.universals import UniversalTree
from holdsalltrees.watchers import Watcher, watcher_of
from tests.machines import (
    changed_watcher, complete_tree, doubled_watcher, drawn_tree, drawn_watcher, even_watcher, full_trees_to, is_right,
    lets_lost, net_of, right_watcher, run, stopped_walk_in, stops_in_graphs, watcher_fields,
)
from tests.searches import drawn_game
from tests.support import Case, has_list, seeded
from tests.test_games import fields


def fault_fields(fault):
    return (fault.kind, fault.lead, fault.ring, fault.tree, fault.walk)


def told(priorities, rows, start, vertices):
    return fault_fields(watcher_fault(Watcher(priorities, rows, start=start), vertices))


def kept(game, priorities, rows, start):
    return kept_vertices(game, Watcher(priorities, rows, start=start))


class FaultTests(Case):
    def test_the_example(self):
        self.example("""
>>> from holdsalltrees.watchers import Watcher, watcher_of
>>> from holdsalltrees.faults import watcher_fault
>>> [watcher_fault(watcher_of(((), ()), 1, 2), 2).kind, watcher_fault(watcher_of(((), ()), 1, 2), 3).kind]
['none', 'stops']
>>> watcher_fault(Watcher(2, ((0, 0),)), 1).kind
'lets'
""")

    def judge(self, watcher, vertices):
        before = watcher_fields(watcher)
        fault = watcher_fault(watcher, vertices)
        self.assertIsInstance(fault, Fault)
        self.assertFalse(has_list(fault_fields(fault)))
        self.same(self.ask(told, *before, vertices), fault_fields(fault))
        if fault.kind == "lets":
            self.judge_lets(watcher, fault)
        elif fault.kind == "stops":
            self.assertFalse(lets_lost(watcher))
            self.judge_stops(watcher, vertices, fault)
        else:
            self.same(fault_fields(fault), ("none", (), (), None, ()))
            self.assertTrue(is_right(watcher, vertices))
        self.same(watcher_fields(watcher), before)
        return fault.kind

    def judge_lets(self, watcher, fault):
        for part in (fault.lead, fault.ring):
            self.assertIsInstance(part, tuple)
            self.assertTrue(all(p in range(watcher.priorities) for p in part))
        self.assertTrue(fault.ring)
        self.same(max(fault.ring) % 2, 1)
        # After as many rounds as there are states the same state comes again.
        self.same(run(watcher, fault.lead + fault.ring * (len(watcher.rows) + 1)), None)
        self.same((fault.tree, fault.walk), (None, ()))

    def judge_stops(self, watcher, vertices, fault):
        height = watcher.priorities // 2
        self.same((fault.lead, fault.ring), ((), ()))
        self.same(is_full(fault.tree, height), True)
        self.assertLessEqual(leaf_count(fault.tree), vertices)
        net = net_of(fault.tree, height)
        walk = fault.walk
        self.assertTrue(walk)
        for (x, p), (y, _) in zip(walk, walk[1:]):
            self.assertIn((x, p, y), net)
        last, priority = walk[-1]
        self.assertTrue(any((last, priority, y) in net for y in range(leaf_count(fault.tree))))
        sequence = [p for _, p in walk]
        self.assertTrue(all(p in range(watcher.priorities) for p in sequence))
        self.same(run(watcher, sequence), len(sequence))

    def test_drawn_watchers(self):
        source = seeded("faults of drawn watchers")
        kinds = set()
        for _ in range(250):
            watcher = drawn_watcher(source, source.randint(1, 6), source.randint(1, 6), source.choice((0, 0.3, 0.7, 0.9)))
            kinds.add(self.judge(watcher, source.randint(1, 4)))
        self.same(sorted(kinds), ["lets", "none", "stops"])

    def test_even_watchers(self):
        source = seeded("faults of even watchers")
        kinds = []
        for _ in range(120):
            watcher = even_watcher(source, source.randint(1, 8), source.randint(1, 6), source.choice((0, 0, 0.1)))
            kinds.append(self.judge(watcher, source.randint(1, 3)))
        self.same(sorted(set(kinds)), ["none", "stops"])

    def test_watchers_of_trees(self):
        for height in range(1, 4):
            for tree in full_trees_to(4, height)[:40]:
                for vertices in (1, 2, 3):
                    watcher = watcher_of(tree, height, 2 * height)
                    kind = self.judge(watcher, vertices)
                    # A fact of point 62.
                    complete = least_missing(tree, vertices, height) is None
                    self.same(kind, "none" if complete else "stops")
                    watcher = watcher_of(tree, height, 2 * height - 1)
                    self.assertIn(self.judge(watcher, vertices), ("none", "stops"))

    def test_right_watchers_and_such_with_too_few_leaves(self):
        for vertices in range(1, 6):
            for priorities in (2, 3):
                self.same(self.judge(watcher_of(complete_tree(vertices, 1), 1, priorities), vertices), "none")
                if vertices > 1:
                    self.same(self.judge(watcher_of(complete_tree(vertices - 1, 1), 1, priorities), vertices), "stops")
        for priorities in (4, 5):
            for vertices in (1, 2, 3, 4):
                tree = UniversalTree(vertices, 2).grown()
                self.same(self.judge(watcher_of(tree, 2, priorities), vertices), "none")
                self.same(self.judge(watcher_of(tree, 2, priorities), vertices + 1), "stops")
        self.same(self.judge(watcher_of(UniversalTree(3, 3).grown(), 3, 6), 3), "none")
        self.same(self.judge(watcher_of(UniversalTree(3, 3).grown(), 3, 6), 4), "stops")

    def test_changed_and_doubled_watchers(self):
        source = seeded("changed watchers")
        kinds = []
        for _ in range(60):
            vertices = source.randint(1, 2)
            height = source.randint(1, 2)
            priorities = 2 * height + source.randint(0, 1)
            watcher = right_watcher(vertices, height, priorities)
            self.same(self.judge(doubled_watcher(source, watcher), vertices), "none")
            kinds.append(self.judge(changed_watcher(source, watcher, 1), vertices))
            kinds.append(self.judge(changed_watcher(source, doubled_watcher(source, watcher), 1), vertices))
        self.same(sorted(set(kinds)), ["lets", "none", "stops"])

    def test_even_graphs(self):
        # By the words of point 56, for all even graphs there are.
        source = seeded("even graphs")
        for vertices, priorities in ((1, 1), (1, 3), (1, 6), (2, 1), (2, 2), (2, 3), (3, 1)):
            for _ in range(40):
                draw = source.choice((drawn_watcher, even_watcher, even_watcher))
                watcher = draw(source, source.randint(1, 5), priorities, source.choice((0, 0, 0.2, 0.5)))
                kind = watcher_fault(watcher, vertices).kind
                if kind != "lets":
                    self.same(kind, "stops" if stops_in_graphs(watcher, vertices) else "none")
            if vertices * (priorities // 2) < 4:
                watcher = right_watcher(vertices, priorities // 2, priorities)
                self.assertFalse(stops_in_graphs(watcher, vertices))

    def test_priorities_1(self):
        for vertices in (1, 5):
            self.same(told(1, ((0,),), 0, vertices), ("none", (), (), None, ()))
            self.same(told(1, ((None,),), 0, vertices), ("stops", (), (), (), ((0, 0),)))
            self.same(told(1, ((1,), (None,)), 0, vertices), ("stops", (), (), (), ((0, 0), (0, 0))))
            self.same(told(1, ((1,), (None,), (2,)), 2, vertices), ("none", (), (), None, ()))

    def test_states_that_cannot_be_reached(self):
        # The states 2 and 3 would let a play through, and stop one that is right.
        rows = ((0, 1), (1, None), (2, 2), (None, None))
        self.same(self.judge(Watcher(2, rows), 2), "none")
        self.same(self.judge(Watcher(2, rows, start=2), 2), "lets")
        self.same(self.judge(Watcher(2, rows, start=3), 2), "stops")
        self.same(self.judge(Watcher(2, rows, start=1), 1), "none")
        self.same(self.judge(Watcher(2, rows, start=1), 2), "stops")

    def test_lets_comes_first(self):
        # It stops the sequence 0, and it lets 1 through again and again.
        self.same(self.judge(Watcher(2, ((None, 0),)), 1), "lets")
        self.same(self.judge(Watcher(2, ((None, 1), (None, 2), (0, 1))), 1), "lets")

    def test_16_states_6_priorities_5_vertices(self):
        source = seeded("large watchers")
        kinds = []
        for stops in (0, 0.02, 0.3, 0.8):
            for priorities in (5, 6):
                kinds.append(self.judge(even_watcher(source, 16, priorities, stops), 5))
                kinds.append(self.judge(drawn_watcher(source, 16, priorities, stops), 5))
        tree = drawn_tree(source, 16, 3)
        kinds.append(self.judge(watcher_of(tree, 3, 6), 5))
        self.assertIn("stops", kinds)
        self.assertIn("lets", kinds)
        loose = Watcher(6, [[max(state - p, 0) if p % 2 else state for p in range(6)] for state in range(16)], start=15)
        self.same(self.judge(loose, 5), "lets")
        # All trees that there are have to be looked at here.
        self.same(self.judge(right_watcher(5, 1, 2), 5), "none")
        self.same(self.judge(watcher_of(UniversalTree(5, 2).grown(), 2, 5), 5), "none")
        self.same(self.judge(Watcher(6, [[state, None, 0, None, 0, None] for state in range(16)]), 1), "none")

    def test_the_walk_must_go_on(self):
        # In the tree with one leaf no edge has an odd priority, so stopping there is right.
        self.same(self.judge(Watcher(2, ((0, None),)), 1), "none")
        self.same(self.judge(Watcher(3, ((0, None, 0),)), 1), "none")
        self.same(self.judge(Watcher(3, ((0, None, None),)), 1), "stops")
        self.same(self.judge(Watcher(4, ((0, None, 0, None),)), 1), "none")

    def test_trees_of_the_fault_are_judged_by_all_walks(self):
        source = seeded("faults by all walks")
        for _ in range(60):
            watcher = even_watcher(source, source.randint(2, 6), 4, 0)
            for vertices in (1, 2, 3):
                stopped = [stopped_walk_in(watcher, tree) for tree in full_trees_to(vertices, 2)]
                self.same(watcher_fault(watcher, vertices).kind, "stops" if any(stopped) else "none")
                exactly = [stopped_walk_in(watcher, tree) for tree in full_trees_to(vertices, 2) if leaf_count(tree) == vertices]
                self.same(any(stopped), any(exactly))


def kept_by_search(game, watcher):
    """The set of point 60: places are taken away until all that remain can go on."""
    left = {(v, s) for v in range(len(game)) for s in range(len(watcher.rows))}
    while True:
        gone = set()
        for v, s in left:
            after = watcher.rows[s][game.priorities[v]]
            steps = [(u, after) in left for u in game.successors[v]]
            if not (any(steps) if game.owners[v] == 0 else all(steps)):
                gone.add((v, s))
        if not gone:
            return tuple(v for v in range(len(game)) if (v, watcher.start) in left)
        left -= gone


class KeptTests(Case):
    def judge(self, game, watcher):
        before = fields(game), watcher_fields(watcher)
        found = self.ask(kept_vertices, game, watcher)
        self.same(found, kept_by_search(game, watcher))
        self.same(self.ask(kept, game, *before[1]), found)
        self.same((fields(game), watcher_fields(watcher)), before)
        return found

    def test_drawn_games_and_watchers(self):
        source = seeded("kept vertices")
        sizes = set()
        for _ in range(300):
            priorities = source.randint(1, 8)
            game = drawn_game(source, source.randint(1, 6), priorities - 1)
            draw = source.choice((drawn_watcher, even_watcher))
            watcher = draw(source, source.randint(1, 8), priorities, source.choice((0, 0.1, 0.5)))
            found = self.judge(game, watcher)
            sizes.add(len(found))
            if draw is even_watcher:
                self.assertTrue(all(winners(game)[v] == 0 for v in found))
        self.assertTrue({0, 1, 2, 3, 4, 5, 6} <= sizes)

    def test_right_watchers_keep_what_player_0_wins(self):
        source = seeded("kept by right watchers")
        for _ in range(80):
            vertices = source.randint(1, 6)
            height = source.randint(1, 2)
            priorities = 2 * height + source.randint(0, 1)
            game = drawn_game(source, vertices, priorities - 1)
            watcher = watcher_of(UniversalTree(vertices, height).grown(), height, priorities)
            self.same(self.judge(game, watcher), tuple(v for v, player in enumerate(winners(game)) if player == 0))

    def test_12_vertices(self):
        source = seeded("kept of 12")
        for _ in range(6):
            game = drawn_game(source, 12, 2)
            watcher = right_watcher(12, 1, 3)
            self.same(self.judge(game, watcher), tuple(v for v, player in enumerate(winners(game)) if player == 0))
            self.judge(drawn_game(source, 12, 7), watcher_of(drawn_tree(source, 60, 4), 4, 8))
            self.judge(drawn_game(source, 12, 7, 12), drawn_watcher(source, 60, 8, 0.05))

    def test_the_first_vertex_is_read_too(self):
        game = Game([0, 0], [1, 0], [[1], [1]])
        self.same(kept(game, 2, ((0, None),), 0), (1,))
        self.same(kept(game, 2, ((0, 1), (1, None)), 0), (0, 1))
        self.same(kept(game, 2, ((0, 1), (1, None)), 1), (1,))
        self.same(kept(game, 2, ((0, 1), (None, None)), 0), (1,))

    def test_who_chooses(self):
        rows = ((0, None),)
        self.same(kept(Game([0, 0, 0], [0, 0, 1], [[1, 2], [1], [2]]), 2, rows, 0), (0, 1))
        self.same(kept(Game([1, 0, 0], [0, 0, 1], [[1, 2], [1], [2]]), 2, rows, 0), (1,))

    def test_too_few_priorities(self):
        rows = ((0,), (0, None), (0, None, 0), (0, None, 0, None))
        for top in range(9):
            game = Game([0, 1], [0, top], [[0, 1], [0]])
            for count in range(1, 5):
                if top >= count:
                    self.refuses(TooFewPriorities(count), kept_vertices, game, Watcher(count, [rows[count - 1]]))
                else:
                    self.judge(game, Watcher(count, [rows[count - 1]]))
        self.refuses(TooFewPriorities(8), kept_vertices, Game([0], [8], [[0]]), Watcher(8, [[0] * 8]))
        self.refuses(TooFewPriorities(1), kept_vertices, Game([0], [30], [[0]]), Watcher(1, [[0]]))

    def test_the_game_without_vertices(self):
        for count in (1, 2, 8):
            self.same(self.judge(Game([], [], []), Watcher(count, [[None] * count])), ())
            self.same(self.judge(Game([], [], []), Watcher(count, [[0] * count])), ())
