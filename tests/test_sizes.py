"""Points 14 and 19: the numbers of leaves."""

from holdsalltrees.sizes import size_bound, universal_size
from holdsalltrees.trees import leaf_count
from tests.reference import built, codes_of, count, shape
from tests.support import Case

BRANCHINGS = [None] + list(range(1, 13))


def binomial(many, chosen):
    row = [1]
    for _ in range(many):
        row = [1] + [one + two for one, two in zip(row, row[1:])] + [1]
    return row[chosen] if chosen <= many else 0


def bound(leaves, height, branching):
    e = 0
    while 2 ** (e + 1) <= leaves:
        e += 1
    if height == 0:
        return 1
    if branching is None:
        return leaves * binomial(e + height - 1, height - 1)
    b = sorted([branching, height + 1, e + 1])[0]
    return leaves * 2 ** (b - 1) * binomial(height, b - 1) * binomial(e + b - 1, b - 1)


class SizeTests(Case):
    def test_the_example(self):
        self.example("""
>>> from holdsalltrees.sizes import universal_size, size_bound
>>> [universal_size(8, 2), size_bound(8, 2), universal_size(8, 3), size_bound(8, 3)]
[21, 32, 41, 80]
""")

    def test_the_trees_themselves(self):
        for leaves in range(1, 18):
            for height in range(5):
                for branching in [None, 1, 2, 3, 4, 5, 6]:
                    tree = built(leaves, height, branching)
                    size = self.ask(universal_size, leaves, height, branching=branching)
                    self.same(size, leaf_count(shape(tree)))
                    self.same(size, len(codes_of(tree)))

    def test_the_branching_need_not_be_passed(self):
        for leaves in (1, 2, 7, 1000000):
            for height in (0, 1, 5, 12):
                self.same(universal_size(leaves, height), universal_size(leaves, height, branching=None))
                self.same(size_bound(leaves, height), size_bound(leaves, height, branching=None))
        self.assertRaises(TypeError, universal_size, 4, 2, 2)
        self.assertRaises(TypeError, size_bound, 4, 2, 2)

    def test_trees_with_one_leaf(self):
        for branching in BRANCHINGS:
            for height in range(13):
                self.same(universal_size(1, height, branching=branching), 1)
            for leaves in (1, 2, 5, 1000000):
                self.same(universal_size(leaves, 0, branching=branching), 1)
                self.same(size_bound(leaves, 0, branching=branching), 1)
        for height in range(13):
            self.same(universal_size(1000000, height, branching=1), 1)

    def test_edges_of_the_branching(self):
        # U(n, h, k) is U(n, h, None) if n < 2 ** k or h < k, and not otherwise.
        for branching in range(1, 7):
            leaves = 2 ** branching
            whole = universal_size(leaves, branching)
            self.assertNotEqual(universal_size(leaves, branching, branching=branching), whole)
            self.same(universal_size(leaves, branching - 1, branching=branching), universal_size(leaves, branching - 1))
            self.same(universal_size(leaves - 1, branching, branching=branching), universal_size(leaves - 1, branching))

    def test_the_greatest_arguments(self):
        for leaves in (999999, 1000000, 2 ** 19, 2 ** 19 - 1, 4096, 4095):
            for height in range(13):
                for branching in BRANCHINGS:
                    size = universal_size(leaves, height, branching=branching)
                    self.same(size, count(leaves, height, branching))
                    self.assertLessEqual(size, size_bound(leaves, height, branching=branching))
        self.same(self.ask(universal_size, 1000000, 12), 39079607618789)
        self.same(self.ask(universal_size, 1000000, 12, branching=2), 22999978)
        self.same(self.ask(size_bound, 1000000, 12), 54627300000000)

    def test_the_height_1(self):
        for leaves in (1, 2, 3, 100, 1000000):
            self.same(universal_size(leaves, 1), leaves)
            self.same(universal_size(leaves, 1, branching=2), leaves)
            self.same(size_bound(leaves, 1), leaves)

    def test_bounds(self):
        some = list(range(1, 34)) + [63, 64, 65, 1000, 1023, 1024, 500000, 524287, 524288, 1000000]
        for leaves in some:
            for height in range(13):
                for branching in BRANCHINGS:
                    given = self.ask(size_bound, leaves, height, branching=branching)
                    self.same(given, bound(leaves, height, branching))
                    self.assertGreaterEqual(given, universal_size(leaves, height, branching=branching))
