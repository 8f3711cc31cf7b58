"""Points 55 and 58."""

from holdsalltrees.errors import BadStart, BadState, NotFull
from holdsalltrees.watchers import Watcher, watcher_of
from tests.machines import drawn_tree, drawn_watcher, lets_lost, leaves_of, net_of, run, watcher_fields
from tests.support import ODD_THINGS, Case, as_lists, chain, perfect, seeded

ODD_ITEMS = [thing for thing in ODD_THINGS if thing is not None]


def made(priorities, rows, start=0):
    return watcher_fields(Watcher(priorities, rows, start=start))


def told(tree, height, priorities):
    return watcher_fields(watcher_of(tree, height, priorities))


def called(priorities, rows, start, sequence, *state):
    return Watcher(priorities, rows, start=start)(sequence, *state)


class WatcherTests(Case):
    def test_the_example(self):
        self.example("""
>>> from holdsalltrees.watchers import Watcher, watcher_of
>>> watcher_of(((), ()), 1, 3).rows
((0, None, 1), (1, 0, 1))
>>> watcher = Watcher(2, ((0, 1), (1, None)))
>>> [watcher((0, 1, 0)), watcher([1, 1]), watcher([0], 1)]
[1, None, 1]
""")

    def test_fields(self):
        self.same(self.ask(made, 2, ((0, 1), (1, None)), 1), (2, ((0, 1), (1, None)), 1))
        self.same(self.ask(made, 1, ((None,),)), (1, ((None,),), 0))
        self.same(self.ask(made, 8, ((0,) * 8,)), (8, ((0,) * 8,), 0))
        rows = tuple(tuple((state * 7 + p) % 60 for p in range(8)) for state in range(60))
        self.same(self.ask(made, 8, rows, 59), (8, rows, 59))
        self.same(Watcher(1, [[0]]).start, 0)

    def test_arguments_are_copied(self):
        rows = [[0, 1], [None, 1]]
        watcher = Watcher(2, rows, start=1)
        rows[0][0] = 1
        rows[1].append(0)
        rows.append([0, 0])
        self.same(watcher_fields(watcher), (2, ((0, 1), (None, 1)), 1))
        self.same(watcher([1, 1]), 1)

    def bad(self, error, priorities, rows, start=0):
        for way in (list, tuple):
            with self.assertRaises(type(error)) as caught:
                Watcher(priorities, way([way(row) for row in rows]), start=start)
            self.same(vars(caught.exception), vars(error))

    def test_one_wrong_item_of_each_kind(self):
        good = [[0, 1, None], [2, None, 0], [None, 1, 2]]
        for item in ODD_ITEMS + [3, 4, -1, -3, 10 ** 40, -10 ** 40, "None", float("nan"), 2.0]:
            for state in range(3):
                for place in range(3):
                    rows = [list(row) for row in good]
                    rows[state][place] = item
                    self.bad(BadState(state), 3, rows)
        for item in ((0,), (), ((0, 1), 2)):
            self.refuses(BadState(1), made, 2, ((0, 0), (0, item)))
        self.bad(BadState(0), 1, [[1]])
        self.bad(BadState(0), 1, [[True]])

    def test_rows_that_are_too_short_or_too_long(self):
        for many in (0, 1, 3, 4, 8):
            for state in range(3):
                rows = [[0, 1], [1, 2], [2, None]]
                rows[state] = [None] * many
                self.refuses(BadState(state), made, 2, rows)
        self.refuses(BadState(0), made, 1, ((),))
        self.refuses(BadState(0), made, 1, ((0, 0),))
        self.refuses(BadState(0), made, 8, ((0,) * 7,))

    def test_the_first_wrong_row_of_several(self):
        self.refuses(BadState(1), made, 2, ((0, 1), (0,), (0, 9), (0, 0, 0)))
        self.refuses(BadState(1), made, 2, ((0, 1), (0, 4), (0,), (0, 0, 0)))
        self.refuses(BadState(2), made, 2, ((0, 1), (0, 3), (0, -1), ("x", 0)))
        self.refuses(BadState(0), made, 2, ((0, True), (0, 1), ()))

    def test_a_start_of_any_kind(self):
        for start in ODD_THINGS + [2, 3, -1, -2, 10 ** 40, -10 ** 40, [1, [2, (3, [])]], "start", [True], ("a", [0])]:
            self.bad(BadStart(start), 2, [[0, 1], [1, None]], start)
        self.refuses(BadStart((1, (2, "[]"))), made, 1, ((0,),), (1, (2, "[]")))
        self.bad(BadStart(1), 1, [[0]], 1)
        self.same(made(1, ((0,), (0,)), 1), (1, ((0,), (0,)), 1))

    def test_rows_come_before_the_start(self):
        for start in (True, 7, None, "x", [0], -1):
            self.refuses(BadState(1), made, 2, ((0, 1), (1, 2)), start)
            self.refuses(BadState(0), made, 2, ((0,), (1, 1)), start)
            self.refuses(BadStart(start), made, 2, ((0, 1), (1, 1)), start)

    def test_calls(self):
        rows = ((0, 1), (1, None))
        self.same(self.ask(called, 2, rows, 0, (0, 1, 0)), 1)
        self.same(self.ask(called, 2, rows, 0, ()), 0)
        self.same(self.ask(called, 2, rows, 1, ()), 1)
        self.same(self.ask(called, 2, rows, 0, (), 1), 1)
        self.same(self.ask(called, 2, rows, 1, (), 0), 0)
        self.same(self.ask(called, 2, rows, 1, (), None), 1)
        self.same(self.ask(called, 2, rows, 1, (0, 0), 0), 0)
        self.same(self.ask(called, 2, rows, 0, (1, 1, 0, 0)), None)
        self.same(self.ask(called, 2, rows, 0, (0, 1, 1)), None)
        self.same(self.ask(called, 2, rows, 1, (1,)), None)
        self.same(self.ask(called, 2, rows, 1, (1,), 0), 1)
        self.same(self.ask(called, 1, ((None,),), 0, (0,)), None)

    def test_calls_against_a_walk_of_the_tests_own(self):
        source = seeded("calls of watchers")
        for _ in range(150):
            priorities = source.randint(1, 8)
            watcher = drawn_watcher(source, source.randint(1, 60), priorities, source.choice((0, 0.01, 0.1, 0.5)))
            for many in (0, 1, 2, 7, 400):
                sequence = [source.randrange(priorities) for _ in range(many)]
                for state in (None, source.randrange(len(watcher.rows))):
                    reached = watcher.start if state is None else state
                    if run(watcher, sequence, state) is not None:
                        reached = None
                    else:
                        for priority in sequence:
                            reached = watcher.rows[reached][priority]
                    self.same(watcher(sequence, state), reached)
                    self.same(watcher(tuple(sequence), state), reached)
                if many == 400:
                    self.same(watcher(sequence), watcher(sequence, watcher.start))

    def test_400_items(self):
        count = Watcher(2, [[(state + 1) % 60, None] for state in range(60)])
        self.same(count([0] * 400), 40)
        self.same(count([0] * 399 + [1]), None)
        self.same(count([1] + [0] * 399), None)
        self.same(count((0,) * 400, 59), 39)


class WatcherOfTests(Case):
    def judge(self, tree, height, priorities):
        found = self.ask(told, tree, height, priorities)
        net = net_of(tree, height)
        count = len(leaves_of(tree))
        rows = []
        for x in range(count):
            goals = [[y for y in range(count) if (x, p, y) in net] for p in range(priorities)]
            rows.append(tuple(max(row, default=None) for row in goals))
        self.same(found, (priorities, tuple(rows), count - 1))
        if count < 8:
            self.assertFalse(lets_lost(watcher_of(tree, height, priorities)))

    def test_trees(self):
        source = seeded("watchers of trees")
        for height in range(1, 5):
            for priorities in range(1, min(8, 2 * height + 1) + 1):
                for leaves in (1, 2, 3, 6):
                    self.judge(drawn_tree(source, leaves, height), height, priorities)
        self.judge((((), ()), ((),)), 2, 5)

    def test_the_height_0(self):
        self.same(self.ask(told, (), 0, 1), (1, ((0,),), 0))

    def test_one_leaf_and_60(self):
        source = seeded("60 leaves")
        for priorities in (1, 2, 7, 8):
            self.judge(chain(4), 4, priorities)
            self.judge(drawn_tree(source, 60, 4), 4, priorities)
        self.judge(((),) * 60, 1, 3)
        self.judge(chain(12), 12, 8)
        self.judge(chain(8, perfect(4)), 12, 8)
        self.judge(drawn_tree(source, 60, 12), 12, 8)

    def test_trees_that_are_not_full(self):
        self.refuses(NotFull(0), told, (), 1, 1)
        self.refuses(NotFull(0), told, ((), ()), 0, 1)
        self.refuses(NotFull(1), told, (((),), (), ((),)), 2, 5)
        self.refuses(NotFull(2), told, (((),), ((),), ()), 2, 2)
        for leaf in range(60):
            tree = as_lists(((),) * 60)
            tree[leaf] = [[]]
            self.refuses(NotFull(leaf), told, tree, 1, 3)
            tree = as_lists((((),),) * 60)
            tree[leaf] = []
            self.refuses(NotFull(leaf), told, tree, 2, 3)
