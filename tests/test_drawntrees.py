"""Points 20 and 21, and point 9 for the row and the error."""

import itertools

from holdsalltrees.drawntrees import DrawnTree
from holdsalltrees.errors import NotFull
from holdsalltrees.trees import all_rows, is_full, leaf_paths, tree_of_row
from holdsalltrees.universals import UniversalTree
from tests.support import Case, as_lists, at, chain, nodes_of, perfect, random_tree, seeded, trees_to


def full_trees(leaves, height):
    for h in range(height + 1):
        for n in range(1, leaves + 1):
            for row in all_rows(n, h):
                yield tree_of_row(row, h), h, row


class DrawnTreeTests(Case):
    def test_the_example(self):
        self.example("""
>>> from holdsalltrees.drawntrees import DrawnTree
>>> order = DrawnTree((((), ()), ((),)), 2)
>>> [order.row, order.needed(1, 2), order.needed(1, 1), order.needed(2, 3), order.kept(2, 3), order.allows(1, 1, 0)]
[(1, 2), 0, 2, None, 1, True]
""")

    def fields(self, tree, height):
        order = DrawnTree(tree, height)
        return (order.tree, order.height, order.row, order.size, order.first, order.last)

    def test_fields(self):
        for tree, height, row in full_trees(4, 3):
            self.same(self.ask(self.fields, tree, height), (tree, height, row, len(row) + 1, 0, len(row)))
        self.same(self.fields((), 0), ((), 0, (), 1, 0, 0))
        self.same(self.fields(((),) * 599, 1), (((),) * 599, 1, (1,) * 598, 599, 0, 598))
        self.same(self.fields(chain(12), 12), (chain(12), 12, (), 1, 0, 0))

    def test_a_later_change_has_no_effect(self):
        tree = [[[], []], [[]]]
        order = DrawnTree(tree, 2)
        tree[0].append([])
        tree.append([[]])
        self.same((order.tree, order.row, order.size), ((((), ()), ((),)), (1, 2), 3))
        self.same([order.needed(1, 1), order.kept(2, 2)], [2, 2])

    def test_trees_that_are_not_full(self):
        for tree in trees_to(6):
            leaves = [path for path in nodes_of(tree) if at(tree, path) == ()]
            for height in range(5):
                wrong = [index for index, path in enumerate(leaves) if len(path) != height]
                if wrong:
                    self.refuses(NotFull(wrong[0]), DrawnTree, tree, height)
                else:
                    self.assertTrue(is_full(tree, height))
        self.refuses(NotFull(598), DrawnTree, ((),) * 598 + (((),),), 1)

    def test_less(self):
        order = DrawnTree((((), ()), ((),)), 2)
        for one, two in itertools.product(range(3), repeat=2):
            self.same(order.less(one, two), one < two)

    def judge(self, tree, height, ranks):
        order = DrawnTree(tree, height)
        paths = leaf_paths(tree)
        for priority in range(2 * height + 1):
            heads = [path[:height - priority // 2] for path in paths]
            for rank in ranks:
                fit = []
                for other in range(len(paths)):
                    wanted = heads[other] < heads[rank] or (heads[other] == heads[rank] and priority % 2 == 0)
                    self.same(order.allows(rank, priority, other), wanted)
                    if wanted:
                        fit.append(other)
                self.same(order.kept(rank, priority), fit[-1] if fit else None)
                fit = [x for x in range(len(paths)) if order.allows(x, priority, rank)]
                self.same(order.needed(rank, priority), fit[0] if fit else None)

    def test_every_rank_and_priority(self):
        for tree, height, _ in full_trees(5, 3):
            self.judge(tree, height, range(len(leaf_paths(tree))))

    def test_large_trees(self):
        source = seeded("drawn")
        self.judge(((),) * 599, 1, (0, 1, 300, 597, 598))
        self.judge(perfect(8), 8, (0, 1, 127, 128, 200, 255))
        self.judge(chain(12), 12, (0,))
        row = tuple(source.randint(1, 12) for _ in range(80))
        self.judge(tree_of_row(row, 12), 12, (0, 1, 33, 79, 80))

    def test_none_is_needed_or_kept(self):
        order = DrawnTree((((), ()), ((),)), 2)
        self.same([order.needed(rank, 1) for rank in range(3)], [1, 2, None])
        self.same([order.needed(rank, 3) for rank in range(3)], [2, 2, None])
        self.same([order.kept(rank, 1) for rank in range(3)], [None, 0, 1])
        self.same([order.kept(rank, 3) for rank in range(3)], [None, None, 1])
        self.same([order.kept(rank, 2) for rank in range(3)], [1, 1, 2])
        self.same([order.kept(rank, 4) for rank in range(3)], [2, 2, 2])
        self.same([order.needed(rank, 4) for rank in range(3)], [0, 0, 0])

    def test_equal_heads_by_the_row(self):
        source = seeded("heads")
        for _ in range(20):
            row = tuple(source.randint(1, 4) for _ in range(12))
            order = DrawnTree(tree_of_row(row, 4), 4)
            for priority in range(9):
                for i, j in itertools.combinations(range(13), 2):
                    alike = all(number <= priority // 2 for number in row[i:j])
                    self.same(order.allows(i, priority, j), alike and priority % 2 == 0)
                    self.same(order.allows(j, priority, i), not alike or priority % 2 == 0)

    def test_the_drawn_tree_of_a_universal_tree(self):
        for n, h, k in ((5, 3, None), (8, 3, 2), (9, 3, 3)):
            universal = UniversalTree(n, h, branching=k)
            order = DrawnTree(universal.grown(), h)
            codes = list(universal.codes())
            for (i, code), priority in itertools.product(enumerate(codes), range(2 * h + 1)):
                for name in ("needed", "kept"):
                    drawn = getattr(order, name)(i, priority)
                    self.same(getattr(universal, name)(code, priority), None if drawn is None else codes[drawn])

    def test_a_random_tree_as_lists(self):
        tree = random_tree(seeded("lists"), 300, 1)
        self.same(DrawnTree(as_lists(tree), 1).tree, tree)
