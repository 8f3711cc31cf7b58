"""Points 12 and 13."""

import itertools

from holdsalltrees.branchings import branching_number, fork, is_fork
from holdsalltrees.embeddings import holds
from holdsalltrees.trees import leaf_count, tree_height
from tests.support import Case, at, chain, nodes_of, perfect, random_tree, seeded, trees_to


def number_of(tree):
    """The branching number as a search for the greatest perfect tree that can be drawn into the tree."""
    rows = 1
    while drawn(tree, rows + 1):
        rows += 1
    return rows


def drawn(tree, rows):
    if rows == 1:
        return True
    if any(drawn(child, rows) for child in tree):
        return True
    return len([child for child in tree if drawn(child, rows - 1)]) >= 2


def right_fork(tree, paper, rows):
    """Point 13, word by word."""
    if rows == 1:
        return len(paper) == 1 and paper[0] in nodes_of(tree)
    if len(paper) != 3 or paper[0] not in nodes_of(tree):
        return False
    path, left, right = paper
    children = range(len(at(tree, path)))
    return (
        right_fork(tree, left, rows - 1)
        and right_fork(tree, right, rows - 1)
        and any(
            left[0][: len(path) + 1] == path + (i,) and right[0][: len(path) + 1] == path + (j,)
            for i, j in itertools.combinations(children, 2)
        )
    )


def spoiled(paper, put):
    """All papers in which the path at one place is changed."""
    for path in put(paper[0]):
        yield (path,) + paper[1:]
    for place in range(1, len(paper)):
        for part in spoiled(paper[place], put):
            yield paper[:place] + (part,) + paper[place + 1:]


class BranchingTests(Case):
    def test_the_examples(self):
        self.example("""
>>> from holdsalltrees.branchings import branching_number, fork
>>> [branching_number(()), branching_number(((), ())), branching_number((((), ()), ((),)))]
[1, 2, 2]
>>> fork(((), ()), 2)
((), ((0,),), ((1,),))
""")

    def test_branching_numbers(self):
        for tree in trees_to(8):
            number = branching_number(tree)
            self.same(number, number_of(tree))
            self.assertGreaterEqual(leaf_count(tree), 2 ** (number - 1))
            self.assertGreaterEqual(tree_height(tree), number - 1)
        for tree in trees_to(5):
            self.ask(branching_number, tree)

    def test_larger_branching_numbers(self):
        for height in range(9):
            self.same(self.ask(branching_number, perfect(height)), height + 1)
        self.same(self.ask(branching_number, chain(12)), 1)
        self.same(self.ask(branching_number, ((),) * 599), 2)
        self.same(self.ask(branching_number, (perfect(3), perfect(3)[:1], perfect(2))), 4)
        self.same(self.ask(branching_number, (perfect(2), perfect(3), perfect(2))), 4)
        self.same(self.ask(branching_number, (perfect(3), (), perfect(3))), 5)
        self.same(self.ask(branching_number, (perfect(3),) * 3), 5)
        self.same(self.ask(branching_number, chain(4, perfect(8))), 9)

    def test_a_tree_that_holds_another_one_has_no_lesser_number(self):
        trees = trees_to(6)
        for big in trees:
            for small in trees:
                if holds(big, small):
                    self.assertGreaterEqual(branching_number(big), branching_number(small))


class ForkTests(Case):
    def judge(self, tree, number, rows):
        paper = self.ask(fork, tree, rows)
        if number < rows:
            self.same(paper, None)
            return None
        self.assertTrue(right_fork(tree, paper, rows))
        self.same(self.ask(is_fork, tree, paper, rows), True)
        for other in range(1, 14):
            self.same(is_fork(tree, paper, other), other == rows)
        return paper

    def test_forks_of_small_trees(self):
        for tree in trees_to(7):
            for rows in range(1, 6):
                self.judge(tree, number_of(tree), rows)

    def test_each_number_of_rows(self):
        trees = [((), 1), (chain(12), 1), (((),) * 599, 2), (perfect(8), 9), (chain(4, perfect(8)), 9)]
        trees.extend([(perfect(5, 3), 6), ((perfect(3), (), perfect(7), chain(1, perfect(3))), 8)])
        for tree, number in trees:
            for rows in range(1, 14):
                self.judge(tree, number, rows)

    def test_thirteen_rows(self):
        tree = perfect(12)
        for rows in range(1, 14):
            paper = fork(tree, rows)
            self.same(is_fork(tree, paper, rows), True)
            self.same(is_fork(tree, paper, rows % 13 + 1), False)
        self.same(fork(perfect(11), 13), None)

    def test_forks_of_random_trees(self):
        source = seeded("forks")
        for height in (3, 6, 12):
            tree = random_tree(source, 600, height)
            for rows in range(1, number_of(tree) + 2):
                paper = fork(tree, rows)
                self.same(paper is not None, number_of(tree) >= rows)
                if paper is not None:
                    self.same(self.ask(is_fork, tree, paper, rows), True)

    def test_all_papers_with_two_rows(self):
        for tree in trees_to(5):
            nodes = nodes_of(tree)
            paths = nodes + [(-1,), (len(tree),), (0, -1), (10 ** 30,)]
            for one in paths:
                self.same(is_fork(tree, (one,), 1), one in nodes)
                self.same(is_fork(tree, (one,), 2), False)
            for one, two, three in itertools.product(paths, repeat=3):
                paper = (one, (two,), (three,))
                self.same(is_fork(tree, paper, 2), right_fork(tree, paper, 2))
                self.same(is_fork(tree, paper, 1), False)

    def test_papers_that_are_wrong_in_one_place(self):
        def put(path):
            for place in range(len(path)):
                for number in (-1, 0, 1, 2, 10 ** 30):
                    yield path[:place] + (number,) + path[place + 1:]
            yield path[:-1]
            yield ()
            for number in (-1, 0, 1, 2):
                yield path + (number,)

        for tree in (perfect(3), (perfect(2), ((), ()), ((), perfect(2))), perfect(2, 3)):
            for rows in range(1, number_of(tree) + 1):
                for paper in spoiled(fork(tree, rows), put):
                    self.same(is_fork(tree, paper, rows), right_fork(tree, paper, rows))

    def test_papers_of_another_form(self):
        tree = perfect(2)
        self.same(self.ask(is_fork, tree, ((), ((0,),), ((1,),)), 2), True)
        self.same(self.ask(is_fork, tree, ((), ((1,),), ((0,),)), 2), False)
        self.same(self.ask(is_fork, tree, ((), ((0,),), ((0,),)), 2), False)
        self.same(self.ask(is_fork, tree, ((), ((0, 0),), ((0, 1),)), 2), False)
        self.same(self.ask(is_fork, tree, ((), ((0, 0),), ((1, 1),)), 2), True)
        self.same(self.ask(is_fork, tree, ((), ((),), ((1,),)), 2), False)
        self.same(self.ask(is_fork, tree, ((0,), ((0, 0),), ((1, 1),)), 2), False)
        self.same(self.ask(is_fork, tree, ((), ((0,),), ((1,),)), 1), False)
        self.same(self.ask(is_fork, tree, ((), ((0,),), ((1,),)), 3), False)
        whole = fork(tree, 3)
        self.same(self.ask(is_fork, tree, whole, 3), True)
        self.same(self.ask(is_fork, tree, (whole[0], whole[1], ((1,),)), 3), False)
        self.same(self.ask(is_fork, tree, (whole[0], ((0,),), whole[2]), 3), False)
        self.same(self.ask(is_fork, tree, (whole[0], whole[1], whole[1]), 3), False)
        self.same(self.ask(is_fork, (), ((),), 1), True)
        self.same(self.ask(is_fork, (), ((0,),), 1), False)
