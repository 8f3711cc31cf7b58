"""Points 14 to 18, and 20 for universal trees."""

import itertools

from holdsalltrees.branchings import branching_number
from holdsalltrees.embeddings import holds
from holdsalltrees.errors import TooLarge
from holdsalltrees.trees import is_full, leaf_count, tree_height
from holdsalltrees.universals import UniversalTree
from tests.reference import built, code_at, codes_of, count, shape, span
from tests.support import Case, seeded, trees_to

WORDS = ["".join(signs) for length in range(5) for signs in itertools.product("01", repeat=length)]


def small_parameters(leaves, height, most):
    """Parameters with at most this number of leaves in the universal tree."""
    for n in range(1, leaves + 1):
        for h in range(height + 1):
            for k in (None, 1, 2, 3, 4):
                if count(n, h, k) <= most:
                    yield n, h, k


def log2(number):
    return len(bin(number)) - 3


class UniversalTreeTests(Case):
    def test_the_examples(self):
        self.example("""
>>> from holdsalltrees.universals import UniversalTree
>>> list(UniversalTree(2, 2).codes())
[('0', ''), ('', '0'), ('', '')]
>>> UniversalTree(3, 2).grown()
(((),), ((), (), ()), ((),))
>>> [UniversalTree(4, 2, branching=2).size, UniversalTree(2, 2).needed(("0", ""), 1), UniversalTree(2, 2).kept(("", "0"), 3)]
[10, ('', '0'), ('0', '')]
""")

    def test_fields_are_as_they_were_passed(self):
        for leaves, height, branching in ((1, 0, None), (1, 0, 12), (3, 2, 7), (1000000, 12, 12), (4, 2, 2)):
            tree = UniversalTree(leaves, height, branching=branching)
            self.same((tree.leaves, tree.height, tree.branching), (leaves, height, branching))
        self.same(UniversalTree(5, 3).branching, None)
        self.assertRaises(TypeError, UniversalTree, 4, 2, 2)

    def test_codes_and_trees(self):
        for n, h, k in small_parameters(17, 4, 2000):
            reference = built(n, h, k)
            tree = UniversalTree(n, h, branching=k)
            codes = codes_of(reference)
            self.same(tree.size, len(codes))
            self.same(tree.first, codes[0])
            self.same(tree.last, codes[-1])
            self.same(list(tree.codes()), codes)
            grown = tree.grown()
            self.same(grown, shape(reference))
            self.assertTrue(is_full(grown, h))

    def test_after_and_before(self):
        for n, h, k in small_parameters(9, 4, 300):
            tree = UniversalTree(n, h, branching=k)
            codes = codes_of(built(n, h, k))
            for code, following in zip(codes, codes[1:] + [None]):
                self.same(tree.after(code), following)
            for code, previous in zip(codes, [None] + codes):
                self.same(tree.before(code), previous)
        for n, h, k in small_parameters(4, 2, 20):
            tree = UniversalTree(n, h, branching=k)
            codes = codes_of(built(n, h, k))
            for code, following in zip(codes, codes[1:] + [None]):
                self.same(self.ask(tree.after, code), following)
                self.same(self.ask(tree.before, code), ([None] + codes)[codes.index(code)])

    def test_less(self):
        for n, h, k in small_parameters(9, 4, 40):
            tree = UniversalTree(n, h, branching=k)
            codes = codes_of(built(n, h, k))
            for (i, one), (j, two) in itertools.product(enumerate(codes), repeat=2):
                self.same(tree.less(one, two), i < j)
        tree = UniversalTree(3, 2)
        self.same(self.ask(tree.less, ("0", ""), ("", "0")), True)
        self.same(self.ask(tree.less, ("", "0"), ("0", "")), False)

    def test_which_values_are_codes(self):
        for n, h, k in small_parameters(9, 2, 300):
            tree = UniversalTree(n, h, branching=k)
            codes = set(codes_of(built(n, h, k)))
            for value in itertools.product(WORDS, repeat=h):
                self.same(value in tree, value in codes)
        for n, h, k in ((5, 3, None), (8, 3, 3), (8, 3, 2), (9, 4, 2)):
            tree = UniversalTree(n, h, branching=k)
            codes = codes_of(built(n, h, k))
            for code in codes[:40]:
                for place, word in itertools.product(range(h), WORDS[:15]):
                    value = code[:place] + (word,) + code[place + 1:]
                    self.same(value in tree, value in set(codes))

    def contains(self, tree, value):
        def asked(passed):
            return passed in tree
        return self.ask(asked, value)

    def test_values_that_are_no_codes(self):
        for tree in (UniversalTree(5, 2), UniversalTree(1000000, 2), UniversalTree(16, 2, branching=2)):
            for code in (tree.first, tree.last):
                self.same(self.contains(tree, code), True)
                self.same(self.contains(tree, code + ("",)), False)
                self.same(self.contains(tree, code[:1]), False)
                self.same(self.contains(tree, ()), False)
                self.same(self.contains(tree, ("",) * 40), False)
                for word in ("2", "a", " ", "~", "\n", "0 ", "00\n", "-", "1x", "x1", "0" * 40, "1" * 40, "0x" * 20):
                    self.same(self.contains(tree, (word,) + code[1:]), False)
                    self.same(self.contains(tree, code[:1] + (word,)), False)
                    self.same(self.contains(tree, (code[0] + word,) + code[1:]), False)
                    self.same(self.contains(tree, (word,)), False)

    def test_values_of_other_kinds_are_no_codes(self):
        for tree in (UniversalTree(5, 2), UniversalTree(5, 0), UniversalTree(4, 2, branching=1)):
            for value in ("", "0", "01", None, 0, True, {}, 2):
                self.same(value in tree, False)
        for word in (None, 0, True, (), ("",), ("0",)):
            self.same(("", word) in UniversalTree(5, 2), False)

    def test_the_height_0(self):
        for branching in (None, 1, 12):
            tree = UniversalTree(1000000, 0, branching=branching)
            self.same((tree.size, tree.first, tree.last, tree.grown()), (1, (), (), ()))
            self.same([self.ask(tree.after, ()), self.ask(tree.before, ())], [None, None])
            self.same(list(tree.codes()), [()])
            self.same([self.contains(tree, ()), self.contains(tree, ("",))], [True, False])
            self.same(self.ask(tree.less, (), ()), False)
            self.same([tree.allows((), 0, ()), tree.needed((), 0), tree.kept((), 0)], [True, (), ()])

    def test_one_leaf_and_the_branching_1(self):
        for tree in (UniversalTree(1, 12), UniversalTree(1, 12, branching=5), UniversalTree(1000000, 12, branching=1)):
            self.same((tree.size, tree.first, tree.last), (1, ("",) * 12, ("",) * 12))
            self.same(list(tree.codes()), [("",) * 12])
            self.same(tree.after(tree.first), None)
            self.same(self.contains(tree, ("",) * 11 + ("0",)), False)

    def test_too_large_to_be_grown(self):
        self.same(UniversalTree(2000, 1).grown(), ((),) * 2000)
        self.refuses(TooLarge(2001), UniversalTree(2001, 1).grown)
        self.refuses(TooLarge(39079607618789), UniversalTree(1000000, 12).grown)
        self.refuses(TooLarge(22999978), UniversalTree(1000000, 12, branching=2).grown)
        for leaves in range(100, 230, 7):
            for branching in (None, 2, 3):
                tree = UniversalTree(leaves, 3, branching=branching)
                if tree.size > 2000:
                    self.refuses(TooLarge(tree.size), tree.grown)
                else:
                    self.assertEqual(leaf_count(self.ask(tree.grown)), tree.size)

    def test_listings(self):
        tree = UniversalTree(1000000, 12, branching=6)
        one = tree.codes()
        two = tree.codes()
        first = [next(one) for _ in range(2000)]
        self.same(first, [code_at(1000000, 12, 6, index) for index in range(2000)])
        self.same([next(two), next(two)], first[:2])
        self.same(next(one), code_at(1000000, 12, 6, 2000))
        self.same(next(two), first[2])
        whole = UniversalTree(3, 1)
        some = whole.codes()
        self.same(next(some), ("0",))
        self.same(list(whole.codes()), [("0",), ("",), ("1",)])
        self.same(list(some), [("",), ("1",)])
        self.assertRaises(StopIteration, next, some)

    def test_facts(self):
        for n, h, k in small_parameters(9, 4, 300):
            tree = UniversalTree(n, h, branching=k)
            number = min(h + 1, log2(n) + 1) if k is None else min(k, h + 1, log2(n) + 1)
            self.assertEqual(branching_number(tree.grown()), number)
            most = log2(n) if k is None else log2(n) + k - 1
            self.assertLessEqual(max(len("".join(code)) for code in tree.codes()), most)

    def test_the_tree_holds_all_trees(self):
        trees = trees_to(7)
        for n, h, k in small_parameters(6, 4, 300):
            big = UniversalTree(n, h, branching=k).grown()
            for tree in trees:
                if leaf_count(tree) <= n and tree_height(tree) <= h:
                    if k is None or branching_number(tree) <= k:
                        self.assertTrue(holds(big, tree))


class UniversalOrderTests(Case):
    def test_allows_by_the_definition(self):
        for n, h, k in small_parameters(6, 4, 25):
            tree = UniversalTree(n, h, branching=k)
            codes = codes_of(built(n, h, k))
            for priority in range(2 * h + 1):
                # The index of the first code with the same head stands for the head.
                heads = [code[:h - priority // 2] for code in codes]
                places = [heads.index(head) for head in heads]
                for i, rank in enumerate(codes):
                    fit = []
                    for j, other in enumerate(codes):
                        wanted = places[j] < places[i] or (places[j] == places[i] and priority % 2 == 0)
                        self.same(tree.allows(rank, priority, other), wanted)
                        if wanted:
                            fit.append(other)
                    self.same(tree.kept(rank, priority), fit[-1] if fit else None)
                for rank in codes:
                    fit = [x for x in codes if tree.allows(x, priority, rank)]
                    self.same(tree.needed(rank, priority), fit[0] if fit else None)

    def test_lists_and_tuples(self):
        for tree in (UniversalTree(3, 2), UniversalTree(4, 2, branching=2)):
            codes = list(tree.codes())
            for rank, priority in itertools.product(codes, range(5)):
                for other in codes:
                    self.ask(tree.allows, rank, priority, other)
                self.ask(tree.needed, rank, priority)
                self.ask(tree.kept, rank, priority)

    def test_none_is_needed_or_kept(self):
        tree = UniversalTree(3, 2)
        self.same(self.ask(tree.needed, ("1", ""), 1), None)
        self.same(self.ask(tree.needed, ("1", ""), 3), None)
        self.same(self.ask(tree.needed, ("", "0"), 3), ("1", ""))
        self.same(self.ask(tree.kept, ("0", ""), 1), None)
        self.same(self.ask(tree.kept, ("0", ""), 3), None)
        self.same(self.ask(tree.kept, ("", "1"), 3), ("0", ""))
        self.same(self.ask(tree.kept, ("", "0"), 1), ("0", ""))


class GreatUniversalTreeTests(Case):
    def judge(self, n, h, k, index):
        tree = UniversalTree(n, h, branching=k)
        size = count(n, h, k)

        def code(at):
            return code_at(n, h, k, at) if 0 <= at < size else None

        rank = code(index)
        self.same(rank in tree, True)
        self.same(tree.after(rank), code(index + 1))
        self.same(tree.before(rank), code(index - 1))
        for other in (0, index - 1, index, index + 1, size - 1):
            if 0 <= other < size:
                self.same(tree.less(rank, code(other)), index < other)
                self.same(tree.less(code(other), rank), other < index)
        for priority in range(2 * h + 1):
            start, end = span(n, h, k, rank[:h - priority // 2])
            even = priority % 2 == 0
            self.same(tree.needed(rank, priority), code(start if even else end))
            self.same(tree.kept(rank, priority), code(end - 1 if even else start - 1))
            for other in (0, start - 1, start, end - 1, end, size - 1):
                if 0 <= other < size:
                    self.same(tree.allows(rank, priority, code(other)), other < (end if even else start))

    def test_the_ends(self):
        for n in (999999, 1000000, 524287, 524288):
            for h in (1, 2, 11, 12):
                for k in [None] + list(range(1, 13)):
                    tree = UniversalTree(n, h, branching=k)
                    size = count(n, h, k)
                    self.same(tree.size, size)
                    self.same(tree.first, code_at(n, h, k, 0))
                    self.same(tree.last, code_at(n, h, k, size - 1))
                    self.same(tree.before(tree.first), None)
                    self.same(tree.after(tree.last), None)

    def test_places_in_great_trees(self):
        source = seeded("great")
        for n in (1000, 4095, 999999, 1000000):
            for h in (1, 3, 12):
                for k in (None, 1, 2, 3, 6, 11, 12):
                    size = count(n, h, k)
                    for index in {0, size - 1, size // 2, source.randrange(size), source.randrange(size)}:
                        self.judge(n, h, k, index)

    def test_every_place_of_some_trees(self):
        for n, h, k in ((40, 2, None), (33, 3, 2), (16, 4, 3)):
            for index in range(count(n, h, k)):
                self.judge(n, h, k, index)
