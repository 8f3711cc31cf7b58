"""Points 23 to 26."""

from functools import lru_cache

from holdsalltrees.complete import capacity, least_complete, least_missing, lower_number, pruned
from holdsalltrees.embeddings import holds
from holdsalltrees.sizes import universal_size
from holdsalltrees.trees import all_rows, is_full, leaf_count, row_of, tree_height, tree_of_row
from holdsalltrees.universals import UniversalTree
from tests.support import Case, at, chain, nodes_of, perfect, random_tree, seeded, trees_to


@lru_cache(None)
def full_trees(leaves, depth):
    """The full trees with their rows, in the order of their rows."""
    rows = [()]
    for _ in range(leaves - 1):
        rows = [row + (number,) for row in rows for number in range(1, depth + 1)]
    return [(row, tree_of_row(row, depth)) for row in rows]


def missing(tree, leaves, depth):
    for row, full in full_trees(leaves, depth):
        if not holds(tree, full):
            return row
    return None


def lower(leaves, depth):
    if depth == 1:
        return leaves
    return sum(lower(leaves // many, depth - 1) for many in range(1, leaves + 1))


class LeastMissingTests(Case):
    def test_the_examples(self):
        self.example("""
>>> from holdsalltrees.complete import least_missing, pruned, lower_number, least_complete
>>> [least_missing((((),), ((), ())), 2, 2), least_missing((((),), ((),)), 2, 2)]
[None, (1,)]
>>> pruned((((),), ((), ())), 2, 2)
((),)
>>> [lower_number(4, 2), lower_number(3, 3), least_complete(2, 2)]
[8, 7, (1, 2)]
""")

    def test_small_trees(self):
        for tree in trees_to(6):
            for depth in (1, 2, 3):
                for leaves in range(1, 5):
                    self.same(least_missing(tree, leaves, depth), missing(tree, leaves, depth))
        for tree in trees_to(4):
            for depth in (1, 2, 3):
                self.same(self.ask(least_missing, tree, 1, depth), missing(tree, 1, depth))
                self.same(self.ask(least_missing, tree, 3, depth), missing(tree, 3, depth))

    def test_the_tree_with_one_leaf(self):
        for depth in (1, 2, 3):
            self.same(self.ask(least_missing, (), 1, depth), ())
            self.same(self.ask(least_missing, chain(depth - 1), 1, depth), ())
            self.same(self.ask(least_missing, chain(depth), 1, depth), None)
            self.same(self.ask(least_missing, chain(39), 1, depth), None)

    def test_deeper_and_lower_trees(self):
        deep = chain(36, perfect(3))
        for leaves, depth in ((1, 3), (2, 3), (5, 3), (8, 2), (8, 1)):
            self.same(self.ask(least_missing, deep, leaves, depth), missing(deep, leaves, depth))
        self.same(self.ask(least_missing, ((),) * 199, 8, 1), None)
        self.same(self.ask(least_missing, ((),) * 199, 8, 2), (1,) * 7)
        below = tuple(chain(38) for _ in range(5))
        self.same(self.ask(least_missing, below, 5, 1), None)
        self.same(self.ask(least_missing, below, 6, 1), (1,) * 5)
        self.same(self.ask(least_missing, below, 5, 3), missing(below, 5, 3))

    def test_greatest_arguments(self):
        source = seeded("missing")
        trees = [random_tree(source, 200, 5), perfect(3, 5), UniversalTree(8, 2).grown(), UniversalTree(5, 3).grown()]
        for tree in trees:
            for leaves, depth in ((8, 1), (8, 2), (6, 3), (5, 3)):
                self.same(least_missing(tree, leaves, depth), missing(tree, leaves, depth))
        self.same(least_missing(UniversalTree(8, 2).grown(), 8, 2), None)
        self.same(least_missing(UniversalTree(6, 3).grown(), 6, 3), None)
        self.same(least_missing(UniversalTree(8, 2).grown()[1:], 8, 2), missing(UniversalTree(8, 2).grown()[1:], 8, 2))


class CapacityTests(Case):
    def judge(self, tree, depth):
        many = self.ask(capacity, tree, depth)
        for leaves in range(1, many + 1):
            self.same(missing(tree, leaves, depth), None)
        self.assertIsNotNone(missing(tree, many + 1, depth))
        return many

    def test_small_trees(self):
        for tree in trees_to(6):
            for depth in (1, 2, 3):
                self.judge(tree, depth)

    def test_trees_that_are_too_low(self):
        for depth in (1, 2, 3):
            self.same(self.ask(capacity, chain(depth - 1), depth), 0)
            self.same(self.ask(capacity, chain(depth), depth), 1)
            self.same(self.ask(capacity, chain(39), depth), 1)
        self.same(self.ask(capacity, ((),) * 16, 2), 0)
        self.same(self.ask(capacity, (), 1), 0)

    def test_trees_with_16_leaves(self):
        self.same(self.judge(((),) * 16, 1), 16)
        self.same(self.judge(tuple(chain(12) for _ in range(16)), 1), 16)
        six = UniversalTree(6, 2).grown()
        self.assertEqual(leaf_count(six), 14)
        self.same(self.judge(six, 2), 6)
        self.same(self.judge(six + (((), ()),), 2), 6)
        four = UniversalTree(4, 3).grown()
        self.assertEqual(leaf_count(four), 13)
        self.same(self.judge(four, 3), 4)
        self.same(self.judge(four + ((((), (), ()),),), 3), 4)
        source = seeded("capacity")
        for _ in range(30):
            tree = random_tree(source, 24, 4)
            if leaf_count(tree) <= 16:
                for depth in (1, 2, 3):
                    self.judge(tree, depth)

    def test_rows_of_16_leaves(self):
        source = seeded("sixteen")
        for depth in (1, 2, 3):
            for _ in range(20):
                self.judge(tree_of_row([source.randint(1, depth) for _ in range(15)], depth), depth)


class PrunedTests(Case):
    def judge(self, tree, depth, many):
        """Against the nodes that remain, one by one."""
        found = self.ask(pruned, tree, depth, many)
        ends = [path for path in nodes_of(tree) if len(path) == depth - 1 and len(at(tree, path)) >= many]
        if not ends:
            self.same(found, None)
            return
        kept = sorted({path[:end] for path in ends for end in range(depth)})
        names = {(): ()}
        for path in kept:
            children = [other for other in kept if other[:-1] == path and len(other) == len(path) + 1]
            for number, child in enumerate(children):
                names[child] = names[path] + (number,)
        self.same(nodes_of(found), sorted(names.values()))

    def test_small_trees(self):
        for tree in trees_to(6):
            for depth in range(1, 6):
                for many in range(1, 6):
                    self.judge(tree, depth, many)

    def test_random_trees(self):
        source = seeded("pruned")
        for height in (1, 2, 3, 12):
            tree = random_tree(source, 100, height)
            for depth in range(1, height + 2):
                for many in (1, 2, 3, 5, 100, 600):
                    self.judge(tree, depth, many)

    def test_edges(self):
        self.same(self.ask(pruned, (), 1, 1), None)
        self.same(self.ask(pruned, ((),) * 599, 1, 599), ())
        self.same(self.ask(pruned, ((),) * 599, 1, 600), None)
        self.same(self.ask(pruned, chain(39), 12, 1), chain(11))
        self.same(self.ask(pruned, chain(39), 12, 2), None)
        self.same(self.ask(pruned, chain(12), 12, 1), chain(11))
        self.same(self.ask(pruned, chain(11), 12, 1), None)
        # Leaves of a lesser depth go, and so do the nodes of a greater one.
        self.same(self.ask(pruned, ((), ((),), (((),), ())), 2, 1), ((), ()))
        self.same(self.ask(pruned, ((), ((),), (((),), ())), 2, 2), ((),))
        self.same(self.ask(pruned, ((), ((),), (((),), ())), 3, 1), (((),),))

    def test_the_pruned_trees_count_the_leaves(self):
        for depth in (1, 2, 3):
            for leaves in range(1, 6):
                for row, tree in full_trees(leaves, depth):
                    total = 0
                    for many in range(1, leaves + 1):
                        part = pruned(tree, depth, many)
                        if part is not None:
                            self.assertTrue(is_full(part, depth - 1))
                            total += leaf_count(part)
                    self.assertEqual(total, leaves)

    def test_pruned_trees_are_complete(self):
        for n, depth in ((4, 2), (6, 2), (4, 3), (8, 1)):
            tree = UniversalTree(n, depth).grown()
            for many in range(1, n + 1):
                part = pruned(tree, depth, many)
                if depth == 1:
                    self.same(part, ())
                else:
                    self.same(least_missing(part, n // many, depth - 1), None)


class LowerNumberTests(Case):
    def test_by_the_definition(self):
        for leaves in range(1, 61):
            for depth in (1, 2, 3):
                self.same(self.ask(lower_number, leaves, depth), lower(leaves, depth))
        for leaves in range(1, 25):
            for depth in (4, 5, 6):
                self.same(self.ask(lower_number, leaves, depth), lower(leaves, depth))

    def test_the_greatest_arguments(self):
        self.same(self.ask(lower_number, 60, 6), lower(60, 6))
        self.same(self.ask(lower_number, 59, 6), lower(59, 6))
        self.same(self.ask(lower_number, 60, 1), 60)
        self.same(self.ask(lower_number, 1, 6), 1)

    def test_no_complete_tree_has_fewer_leaves(self):
        for leaves in range(1, 9):
            for depth in (1, 2, 3):
                self.assertLessEqual(lower_number(leaves, depth), universal_size(leaves, depth))


class LeastCompleteTests(Case):
    def search(self, leaves, depth):
        size = 1
        while True:
            for row, tree in full_trees(size, depth):
                if missing(tree, leaves, depth) is None:
                    return row
            size += 1

    def test_all_arguments(self):
        for leaves, depth in ((1, 1), (2, 1), (3, 1), (4, 1), (1, 2), (2, 2), (3, 2), (4, 2), (1, 3), (2, 3), (3, 3)):
            row = self.ask(least_complete, leaves, depth)
            self.same(row, self.search(leaves, depth))
            self.assertGreaterEqual(len(row) + 1, lower_number(leaves, depth))

    def test_more_leaves_than_the_lower_number(self):
        self.assertEqual(lower_number(5, 2), 10)
        self.same(least_complete(5, 2), self.search(5, 2))
        self.assertEqual(len(least_complete(5, 2)), 10)

    def test_the_greatest_arguments(self):
        self.same(least_complete(4, 2), (1, 2, 2, 1, 1, 1, 2))
        self.same(least_complete(3, 3), (3, 2, 1, 1, 2, 3))
        self.same(least_complete(4, 1), (1, 1, 1))
        self.same([least_complete(1, depth) for depth in (1, 2, 3)], [(), (), ()])

    def test_the_trees_are_full_and_hold_all(self):
        for leaves, depth in ((4, 2), (3, 3), (3, 2), (5, 2)):
            tree = tree_of_row(least_complete(leaves, depth), depth)
            self.assertEqual(tree_height(tree), depth)
            for row in all_rows(leaves, depth):
                self.assertTrue(holds(tree, tree_of_row(row, depth)))
            self.same(row_of(tree, depth), least_complete(leaves, depth))
