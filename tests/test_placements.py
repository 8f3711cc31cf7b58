"""Points 18 and 22."""

import itertools

from holdsalltrees.branchings import branching_number
from holdsalltrees.errors import TooBranched, TooHigh, TooManyLeaves
from holdsalltrees.placements import is_placement, placement
from holdsalltrees.trees import filled, leaf_count, leaf_paths, tree_height
from holdsalltrees.universals import UniversalTree
from tests.reference import built, codes_of, is_leaf, span
from tests.support import Case, chain, perfect, random_tree, seeded, trees_to


def is_right(tree, parameters, codes):
    """Point 22, word by word. Leaves are told apart by their indexes in the universal tree."""
    n, h, k = parameters
    paths = leaf_paths(filled(tree, h))
    if len(codes) != len(paths):
        return False
    if not all(is_leaf(n, h, k, code) for code in codes):
        return False
    for one, two, first, second in zip(paths, paths[1:], codes, codes[1:]):
        c = len([0 for end in range(1, h + 1) if one[:end] == two[:end]])
        if first[:c] != second[:c] or span(n, h, k, first[:c + 1]) >= span(n, h, k, second[:c + 1]):
            return False
    return True


class PlacementTests(Case):
    def place(self, tree, n, h, k):
        universal = UniversalTree(n, h, branching=k)
        codes = self.ask(placement, tree, universal)
        self.assertTrue(is_right(tree, (n, h, k), codes), (tree, n, h, k, codes))
        self.same(self.ask(is_placement, tree, universal, codes), True)
        return codes

    def place_once(self, tree, n, h, k):
        universal = UniversalTree(n, h, branching=k)
        codes = placement(tree, universal)
        self.assertTrue(is_right(tree, (n, h, k), codes))
        self.same(is_placement(tree, universal, codes), True)

    def test_small_trees_in_trees_that_just_hold_them(self):
        for tree in trees_to(8):
            leaves, height, number = leaf_count(tree), tree_height(tree), branching_number(tree)
            for k in (None, number, number + 1):
                for n, h in ((leaves, height), (leaves + 1, height), (leaves, height + 1), (2 * leaves + 3, height + 2)):
                    codes = placement(tree, UniversalTree(n, h, branching=k))
                    self.assertTrue(is_right(tree, (n, h, k), codes))
                    self.same(is_placement(tree, UniversalTree(n, h, branching=k), codes), True)

    def test_lists_and_tuples(self):
        for tree in trees_to(5):
            self.place(tree, leaf_count(tree), tree_height(tree), None)
            self.place(tree, 6, 5, branching_number(tree))

    def test_one_node(self):
        self.same(self.place((), 1, 0, None), ((),))
        self.same(self.place((), 1000000, 0, 3), ((),))
        self.assertEqual(len(self.place((), 1, 12, None)), 1)
        self.place((), 1000000, 12, 1)
        self.place(chain(12), 1000000, 12, 1)
        self.place(chain(5), 7, 12, 1)

    def test_the_three_errors(self):
        bushy = (((), ()), ((), ()))
        self.refuses(TooHigh(2), placement, bushy, UniversalTree(4, 1))
        self.refuses(TooManyLeaves(4), placement, bushy, UniversalTree(3, 2))
        self.refuses(TooBranched(3), placement, bushy, UniversalTree(4, 2, branching=2))
        self.refuses(TooBranched(3), placement, bushy, UniversalTree(4, 2, branching=1))
        self.place(bushy, 4, 2, 3)
        self.place(bushy, 4, 2, None)
        self.place(bushy, 4, 2, 12)
        self.refuses(TooHigh(12), placement, chain(12), UniversalTree(1000000, 11))
        self.refuses(TooManyLeaves(599), placement, ((),) * 599, UniversalTree(598, 12))
        self.refuses(TooBranched(9), placement, perfect(8), UniversalTree(1000000, 12, branching=8))

    def test_the_order_of_the_errors(self):
        bushy = (((), ()), ((), ()))
        self.refuses(TooHigh(2), placement, bushy, UniversalTree(3, 1, branching=2))
        self.refuses(TooHigh(2), placement, bushy, UniversalTree(3, 1))
        self.refuses(TooHigh(2), placement, bushy, UniversalTree(4, 0, branching=1))
        self.refuses(TooManyLeaves(4), placement, bushy, UniversalTree(3, 2, branching=2))
        self.refuses(TooManyLeaves(2), placement, ((), ()), UniversalTree(1, 1, branching=1))
        self.refuses(TooBranched(2), placement, ((), ()), UniversalTree(2, 1, branching=1))

    def test_random_trees_of_600_nodes(self):
        source = seeded("placed")
        for height in (1, 2, 5, 12):
            for _ in range(3):
                tree = random_tree(source, 600, height)
                leaves, number = leaf_count(tree), branching_number(tree)
                self.place(tree, leaves, tree_height(tree), number)
                self.place_once(tree, leaves, 12, None)
                self.place_once(tree, leaves, 12, number)

    def test_universal_trees_that_are_too_large_to_be_built(self):
        source = seeded("huge")
        trees = [perfect(8), ((),) * 599, (chain(11),) * 50, chain(4, perfect(8)), random_tree(source, 600, 12)]
        for tree in trees:
            for n in (999999, 1000000):
                for k in (None, branching_number(tree), 10, 12):
                    self.place_once(tree, n, 12, k)
            self.place(tree, 1000000, 12, branching_number(tree))

    def test_tight_trees_of_several_branching_numbers(self):
        source = seeded("tight")
        for _ in range(60):
            tree = random_tree(source, source.randint(5, 60), source.randint(1, 6))
            self.place(tree, leaf_count(tree), tree_height(tree), branching_number(tree))


class IsPlacementTests(Case):
    def test_all_papers(self):
        for n, h, k in ((2, 1, None), (3, 1, 1), (2, 2, None), (3, 2, None), (4, 2, 2), (2, 2, 1)):
            universal = UniversalTree(n, h, branching=k)
            codes = codes_of(built(n, h, k))
            for tree in trees_to(5):
                if tree_height(tree) > h or leaf_count(tree) > 3:
                    continue
                for paper in itertools.product(codes, repeat=leaf_count(tree)):
                    self.same(is_placement(tree, universal, paper), is_right(tree, (n, h, k), paper))

    def test_leaves_and_branching_do_not_matter(self):
        # The tree has more leaves and a greater branching number than the universal tree is made for.
        universal = UniversalTree(4, 2, branching=2)
        tree = ((), (), (), (), (), ())
        paper = [code for code in universal.codes() if code[1] in ("", "0")]
        self.same(self.ask(is_placement, tree, universal, paper), is_right(tree, (4, 2, 2), tuple(paper)))
        firsts = {}
        for code in universal.codes():
            firsts.setdefault(code[0], code)
        paper = tuple(firsts.values())
        self.assertGreater(len(paper), 4)
        self.same(self.ask(is_placement, ((),) * len(paper), universal, paper), True)
        self.same(self.ask(is_placement, ((),) * len(paper), universal, paper[::-1]), False)
        whole = UniversalTree(2, 2)
        self.same(self.ask(is_placement, (((),), ((), ())), whole, tuple(whole.codes())), True)
        bushy = (((), ()), ((), ()))
        few = UniversalTree(3, 2)
        self.same(is_placement(bushy, few, (("0", ""), ("", "0"), ("", ""), ("", "1"))), False)

    def test_the_wrong_number_of_codes(self):
        universal = UniversalTree(3, 2)
        for tree in trees_to(5):
            if leaf_count(tree) <= 3 and tree_height(tree) <= 2:
                codes = placement(tree, universal)
                self.same(self.ask(is_placement, tree, universal, codes[:-1]), False)
                self.same(self.ask(is_placement, tree, universal, codes + codes[-1:]), False)
                self.same(self.ask(is_placement, tree, universal, codes + (("1", ""),)), False)
                self.same(self.ask(is_placement, tree, universal, ()), False)

    def test_papers_that_are_wrong_in_one_word(self):
        for tree, n, h, k in (
            ((((), ()), ((),)), 3, 2, None),
            ((((), ()), ((), ())), 9, 3, 3),
            ((((), ()), (((),), ())), 8, 3, 3),
            (((), ((), ((), ()))), 8, 4, 2),
        ):
            universal = UniversalTree(n, h, branching=k)
            codes = placement(tree, universal)
            right = 0
            for leaf, place in itertools.product(range(len(codes)), range(h)):
                for word in ("", "0", "1", "00", "01", "10", "11", "000", "2", "x" * 40, "0" * 40, "1" * 40):
                    code = codes[leaf][:place] + (word,) + codes[leaf][place + 1:]
                    paper = codes[:leaf] + (code,) + codes[leaf + 1:]
                    wanted = is_right(tree, (n, h, k), paper)
                    self.same(self.ask(is_placement, tree, universal, paper), wanted)
                    right += wanted
            self.assertGreater(right, 0)

    def test_trees_that_are_too_high(self):
        universal = UniversalTree(4, 1)
        for tree in (((),), ((), ())):
            self.same(is_placement(tree, universal, placement(tree, universal)), True)
        for tree in ((((),),), (((), ()),), (((),), ()), chain(12)):
            self.same(is_placement(tree, universal, tuple(universal.codes())[:leaf_count(tree)]), False)

    def test_codes_of_another_length(self):
        universal = UniversalTree(3, 2)
        self.same(self.ask(is_placement, (), universal, (("", ""),)), True)
        for code in ((), ("",), ("", "", ""), ("",) * 40):
            self.same(self.ask(is_placement, (), universal, (code,)), False)
            self.same(self.ask(is_placement, ((), ()), universal, (("0", ""), code)), False)

    def test_great_papers_that_are_wrong_in_one_word(self):
        source = seeded("one word")
        tree = random_tree(source, 600, 6)
        universal = UniversalTree(1000000, 12, branching=branching_number(tree))
        codes = placement(tree, universal)
        for _ in range(20):
            leaf = source.randrange(1, len(codes))
            place = source.randrange(12)
            for word in (codes[leaf][place] + "x", "2", "1" * 40):
                code = codes[leaf][:place] + (word,) + codes[leaf][place + 1:]
                self.same(is_placement(tree, universal, codes[:leaf] + (code,) + codes[leaf + 1:]), False)
            # Two leaves with the same code, and two that have changed places.
            self.same(is_placement(tree, universal, codes[:leaf] + codes[leaf - 1:leaf] + codes[leaf + 1:]), False)
            swapped = codes[:leaf - 1] + (codes[leaf], codes[leaf - 1]) + codes[leaf + 1:]
            self.same(is_placement(tree, universal, swapped), False)
