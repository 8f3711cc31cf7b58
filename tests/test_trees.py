"""Points 7, 8 and 9."""

from holdsalltrees.errors import BadRow, NotFull, TooHigh
from holdsalltrees.trees import (
    all_rows,
    filled,
    is_full,
    leaf_count,
    leaf_paths,
    row_of,
    tree_height,
    tree_of_row,
)
from tests.support import ODD_THINGS, Case, at, chain, nodes_of, perfect, random_tree, seeded, trees_to

BENT = ((), ((),), ((), ()))


def leaves_of(tree):
    return [path for path in nodes_of(tree) if at(tree, path) == ()]


def shared(one, two):
    return len([0 for k in range(len(one)) if one[: k + 1] == two[: k + 1]])


class TreeTests(Case):
    def test_the_examples(self):
        self.example("""
>>> from holdsalltrees.trees import leaf_paths, filled, row_of, all_rows
>>> leaf_paths(((), ((),), ((), ())))
((0,), (1, 0), (2, 0), (2, 1))
>>> filled(((), ((),)), 2)
(((),), ((),))
>>> row_of((((),), ((), ())), 2)
(2, 1)
>>> list(all_rows(3, 2))
[(1, 1), (1, 2), (2, 1), (2, 2)]
""")

    def test_height_and_leaves_of_small_trees(self):
        for tree in trees_to(6):
            self.same(self.ask(tree_height, tree), max(len(path) for path in nodes_of(tree)))
            self.same(self.ask(leaf_count, tree), len(leaves_of(tree)))
            self.same(self.ask(leaf_paths, tree), tuple(leaves_of(tree)))

    def test_the_tree_with_one_node(self):
        self.same(self.ask(tree_height, ()), 0)
        self.same(self.ask(leaf_count, ()), 1)
        self.same(self.ask(leaf_paths, ()), ((),))
        self.same(self.ask(is_full, (), 0), True)
        self.same(self.ask(is_full, (), 1), False)
        self.same(self.ask(filled, (), 0), ())
        self.same(self.ask(filled, (), 3), ((((),),),))

    def test_leaf_paths_are_in_lexicographic_order(self):
        tree = random_tree(seeded("paths"), 600, 12)
        paths = self.ask(leaf_paths, tree)
        self.assertEqual(list(paths), sorted(set(paths)))
        self.assertEqual(set(paths), set(leaves_of(tree)))
        wide = self.ask(leaf_paths, ((),) * 599)
        self.same(wide, tuple((index,) for index in range(599)))

    def test_is_full(self):
        for tree in trees_to(6):
            depths = {len(path) for path in leaves_of(tree)}
            for depth in range(5):
                self.same(self.ask(is_full, tree, depth), depths == {depth})
        self.same(self.ask(is_full, chain(12), 12), True)
        self.same(self.ask(is_full, chain(12), 11), False)

    def test_filled(self):
        for tree in trees_to(6):
            height = tree_height(tree)
            for depth in range(7):
                if depth < height:
                    self.refuses(TooHigh(height), filled, tree, depth)
                    continue
                full = self.ask(filled, tree, depth)
                wanted = [path + (0,) * (depth - len(path)) for path in leaves_of(tree)]
                self.same(leaf_paths(full), tuple(wanted))

    def test_filled_to_the_greatest_depth(self):
        self.same(self.ask(filled, (), 12), chain(12))
        self.same(self.ask(filled, ((), chain(11)), 12), (chain(11), chain(11)))
        self.refuses(TooHigh(12), filled, chain(12), 11)
        self.refuses(TooHigh(1), filled, ((),), 0)
        self.same(self.ask(filled, ((),) * 599, 1), ((),) * 599)


class RowTests(Case):
    def test_row_of_full_trees(self):
        for tree in trees_to(7):
            depth = tree_height(tree)
            if is_full(tree, depth):
                paths = leaves_of(tree)
                row = self.ask(row_of, tree, depth)
                self.same(row, tuple(depth - shared(one, two) for one, two in zip(paths, paths[1:])))
                self.same(self.ask(tree_of_row, row, depth), tree)

    def test_trees_that_are_not_full(self):
        for tree in trees_to(6):
            for depth in range(5):
                wrong = [index for index, path in enumerate(leaves_of(tree)) if len(path) != depth]
                if wrong:
                    self.refuses(NotFull(wrong[0]), row_of, tree, depth)
        self.refuses(NotFull(0), row_of, BENT, 2)
        self.refuses(NotFull(1), row_of, BENT, 1)
        self.refuses(NotFull(2), row_of, (((),), ((), ((),))), 2)
        self.refuses(NotFull(0), row_of, (), 1)
        self.refuses(NotFull(0), row_of, ((),), 0)
        self.refuses(NotFull(598), row_of, ((),) * 598 + (((),),), 1)

    def test_large_rows(self):
        self.same(self.ask(row_of, ((),) * 599, 1), (1,) * 598)
        self.same(self.ask(row_of, chain(11, ((), ())), 12), (1,))
        self.same(self.ask(row_of, (chain(11), chain(11)), 12), (12,))
        self.same(self.ask(row_of, perfect(8), 8)[:8], (1, 2, 1, 3, 1, 2, 1, 4))

    def test_the_height_0(self):
        self.same(self.ask(row_of, (), 0), ())
        self.same(self.ask(tree_of_row, (), 0), ())
        for item in [1, 0, -1] + ODD_THINGS:
            self.same_error(BadRow(0), [item], 0)
        self.same(self.ask(tree_of_row, (), 12), chain(12))

    def same_error(self, error, row, depth):
        for passed in (row, tuple(row)):
            with self.assertRaises(BadRow) as caught:
                tree_of_row(passed, depth)
            self.same(vars(caught.exception), vars(error))

    def test_every_row_is_the_row_of_its_tree(self):
        for depth in range(1, 5):
            for leaves in range(1, 5):
                seen = set()
                for row in all_rows(leaves, depth):
                    tree = self.ask(tree_of_row, row, depth)
                    self.assertTrue(is_full(tree, depth))
                    self.assertEqual(leaf_count(tree), leaves)
                    self.same(row_of(tree, depth), row)
                    seen.add(tree)
                self.assertEqual(len(seen), depth ** (leaves - 1))

    def test_rows_of_200_items(self):
        source = seeded("rows")
        for depth in (1, 2, 6, 12):
            row = tuple(source.randint(1, depth) for _ in range(200))
            tree = self.ask(tree_of_row, row, depth)
            self.same(row_of(tree, depth), row)
            self.assertEqual(leaf_count(tree), 201)
            bad = row[:199] + (depth + 1,)
            self.refuses(BadRow(199), tree_of_row, bad, depth)
            self.refuses(BadRow(0), tree_of_row, (0,) + bad[1:], depth)

    def test_items_of_every_kind(self):
        numbers = [0, -1, -5, 4, 5, 10 ** 40, -10 ** 40]
        for item in numbers + ODD_THINGS:
            self.same_error(BadRow(0), [item], 3)
            self.same_error(BadRow(1), [3, item, 1], 3)
            self.same_error(BadRow(2), [1, 2, item, item, 0], 3)
        self.same_error(BadRow(1), [2, 3, 1], 2)
        self.same(self.ask(tree_of_row, (3, 1, 2), 3), ((((),),), (((), ()), ((),))))

    def test_a_row_is_not_changed(self):
        row = [1, [2], 1]
        self.assertRaises(BadRow, tree_of_row, row, 2)
        self.same(row, [1, [2], 1])
        row = [1, 2, 1]
        tree_of_row(row, 2)
        self.same(row, [1, 2, 1])


class AllRowsTests(Case):
    def listed(self, leaves, depth):
        rows = [()]
        for _ in range(leaves - 1):
            rows = [row + (number,) for row in rows for number in range(1, depth + 1)]
        return rows

    def test_all_rows_in_order(self):
        for leaves in range(1, 6):
            for depth in range(5):
                rows = list(all_rows(leaves, depth))
                self.same(rows, self.listed(leaves, depth))
                self.assertEqual(rows, sorted(rows))
                self.same(list(all_rows(leaves, depth)), rows)

    def test_one_leaf_and_the_height_0(self):
        for depth in range(7):
            self.same(list(all_rows(1, depth)), [()])
        for leaves in range(2, 13):
            self.same(list(all_rows(leaves, 0)), [])
            self.same(list(all_rows(leaves, 1)), [(1,) * (leaves - 1)])

    def test_the_greatest_arguments(self):
        rows = all_rows(12, 6)
        first = [next(rows) for _ in range(10000)]
        self.same(first[0], (1,) * 11)
        self.same(first[6 ** 4], (1,) * 6 + (2,) + (1,) * 4)
        self.same(first[9999], (1,) * 5 + (2, 2, 5, 2, 5, 4))
        self.assertEqual(first, sorted(set(first)))
        self.same(list(all_rows(12, 2)), self.listed(12, 2))

    def test_listings_that_go_on_by_turns(self):
        one = all_rows(3, 2)
        two = all_rows(3, 2)
        self.same([next(one), next(one), next(two), next(one), next(two)],
                  [(1, 1), (1, 2), (1, 1), (2, 1), (1, 2)])
        self.same(list(one), [(2, 2)])
        self.same(list(two), [(2, 1), (2, 2)])
        self.assertRaises(StopIteration, next, one)

    def test_only_the_first_rows(self):
        rows = all_rows(12, 6)
        self.same(next(rows), (1,) * 11)
        self.same(next(rows), (1,) * 10 + (2,))
        rows.close()
        self.same(next(all_rows(12, 6)), (1,) * 11)
