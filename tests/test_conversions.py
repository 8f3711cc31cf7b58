"""Point 46."""

import itertools

from holdsalltrees.climbing import climb
from holdsalltrees.conversions import decomposition_of, ranking_of
from holdsalltrees.decompositions import is_decomposition, tree_of, vertices_of
from holdsalltrees.drawntrees import DrawnTree
from holdsalltrees.embeddings import holds
from holdsalltrees.errors import NotDecomposition, NotRanking
from holdsalltrees.games import Game
from holdsalltrees.numbering import decompose
from holdsalltrees.rankings import is_ranking
from holdsalltrees.trees import all_rows, is_full, leaf_count, tree_of_row
from holdsalltrees.universals import UniversalTree
from tests.searches import FOUR_LOOPS, TWO_LOOPS, all_papers, all_rankings, drawn_game
from tests.support import Case, chain, perfect, seeded
from tests.test_decompositions import EMPTY, LINE, MIXED, MIXED_PAPER, PAPER
from tests.test_games import fields


def ranked(ranks):
    return tuple(v for v, rank in enumerate(ranks) if rank is not None)


class Judge(Case):
    def judge_paper(self, game, paper):
        """Asks for the ranking of a decomposition."""
        before = fields(game)
        tree, ranks = self.ask(ranking_of, game, paper)
        inside = vertices_of(paper)
        self.same(is_full(tree, game.height), True)
        self.assertLessEqual(leaf_count(tree), max(len(inside), 1))
        self.assertEqual(len(ranks), len(game))
        self.same(is_ranking(game, DrawnTree(tree, game.height), ranks), True)
        self.same(ranked(ranks), inside)
        self.assertTrue(all(rank in range(leaf_count(tree)) for rank in ranks if rank is not None))
        self.same(fields(game), before)
        return tree, ranks

    def judge_ranks(self, game, tree, ranks):
        """Asks for the decomposition of a ranking."""
        before = fields(game)
        paper = self.ask(decomposition_of, game, tree, ranks)
        self.same(is_decomposition(game, paper), True)
        self.same(vertices_of(paper), ranked(ranks))
        self.same(holds(tree, tree_of(paper)), True)
        self.same(fields(game), before)
        return paper

    def there_and_back(self, game, paper):
        tree, ranks = self.judge_paper(game, paper)
        other = self.judge_ranks(game, tree, ranks)
        self.judge_paper(game, other)


class RankingOfTests(Judge):
    def test_decompositions_of_small_games(self):
        source = seeded("there")
        many = 0
        for _ in range(150):
            game = drawn_game(source, source.randint(1, 4), source.randint(0, 5))
            papers = all_papers(game)
            for paper in source.sample(papers, min(8, len(papers))):
                self.there_and_back(game, paper)
                many += 1
        self.assertGreater(many, 300)

    def test_a_few(self):
        self.there_and_back(LINE, PAPER)
        self.there_and_back(MIXED, MIXED_PAPER)
        self.there_and_back(MIXED, ((0, 8), ()))
        self.there_and_back(TWO_LOOPS, decompose(TWO_LOOPS, 2))
        self.there_and_back(FOUR_LOOPS, decompose(FOUR_LOOPS, 3))

    def test_nothing_is_decomposed(self):
        for top in range(10):
            game = Game([0], [top], [[0]])
            self.same(self.judge_paper(game, EMPTY), (chain(game.height), (None,)))
        self.same(self.judge_paper(Game((), (), ()), EMPTY), ((), ()))

    def test_values_that_are_not_decompositions(self):
        for game in (LINE, MIXED, TWO_LOOPS):
            for paper in (((), ((EMPTY, ()),)), ((1,), ()), ((), ((((0,), ()), ()),)), ((0, 1), ((((1,), ()), ()),))):
                self.same(is_decomposition(game, paper), False)
                self.refuses(NotDecomposition(), ranking_of, game, paper)
        self.refuses(NotDecomposition(), ranking_of, MIXED, PAPER)
        self.refuses(NotDecomposition(), ranking_of, MIXED, MIXED_PAPER[1][0][0])

    def test_larger_games(self):
        source = seeded("larger there")
        for _ in range(80):
            game = drawn_game(source, 12, 9)
            for number in (1, 2, 4):
                self.there_and_back(game, decompose(game, number))

    def test_long_attractors(self):
        way = Game([0, 1] * 6, [8] + [7] * 11, [[max(v - 1, 0)] for v in range(12)])
        tree, ranks = self.judge_paper(way, (tuple(range(12)), ()))
        self.same(leaf_count(tree), 12)
        self.there_and_back(way, (tuple(range(12)), ()))
        way = Game([0, 1] * 6, [0] + [9] * 11, [[max(v - 1, 0)] for v in range(12)])
        paper = ((0,), ())
        for _ in range(4):
            paper = ((), ((paper, ()),))
        paper = ((), ((paper, tuple(range(1, 12))),))
        self.there_and_back(way, paper)


class DecompositionOfTests(Judge):
    def test_all_rankings_of_small_games(self):
        source = seeded("back")
        many = 0
        for _ in range(120):
            game = drawn_game(source, source.randint(1, 4), source.randint(0, 4))
            leaves = source.randint(1, 3)
            for row in all_rows(leaves if game.height > 0 else 1, game.height):
                tree = tree_of_row(row, game.height)
                order = DrawnTree(tree, game.height)
                for ranks in itertools.product([None, *range(order.size)], repeat=len(game)):
                    if source.random() < 0.4:
                        continue
                    if is_ranking(game, order, ranks):
                        self.judge_ranks(game, tree, ranks)
                        many += 1
                    elif source.random() < 0.1:
                        self.refuses(NotRanking(), decomposition_of, game, tree, ranks)
        self.assertGreater(many, 300)

    def test_rankings_that_are_not_the_least(self):
        source = seeded("not least")
        for _ in range(60):
            game = drawn_game(source, 4, 4)
            tree = perfect(game.height, 3)
            found = list(all_rankings(game, DrawnTree(tree, game.height), source.sample(range(leaf_count(tree)), min(
                4, leaf_count(tree)))))
            for ranks in source.sample(found, min(6, len(found))):
                self.judge_ranks(game, tree, ranks)

    def test_least_rankings_of_larger_games(self):
        source = seeded("larger back")
        for _ in range(60):
            game = drawn_game(source, 12, 9)
            for tree in (UniversalTree(12, game.height).grown(), perfect(game.height), chain(game.height)):
                ranks = climb(game, DrawnTree(tree, game.height))
                paper = self.judge_ranks(game, tree, ranks)
                self.there_and_back(game, paper)

    def test_nothing_has_a_rank(self):
        for top in range(10):
            game = Game([0, 1], [top, 0], [[0], [0, 1]])
            for tree in (chain(game.height), perfect(game.height)):
                self.same(self.judge_ranks(game, tree, (None, None)), EMPTY)
        self.same(self.judge_ranks(Game((), (), ()), (), ()), EMPTY)

    def test_values_that_are_not_rankings(self):
        tree = ((), ())
        for ranks in ((0, 0, 0), (0, 1, 0), (None, 1, 0), (1, 0, 0), (None, 1, None), (0, None, None)):
            right = ranks == (None, 1, 0)
            self.same(is_ranking(LINE, DrawnTree(tree, 1), ranks), right)
            if not right:
                self.refuses(NotRanking(), decomposition_of, LINE, tree, ranks)
        self.same(self.ask(decomposition_of, LINE, tree, (None, 1, 0)), ((), ((((2,), ()), (1,)),)))
        three = ((), (), ())
        self.same(self.ask(decomposition_of, LINE, three, (2, 1, 0)), PAPER)
        self.refuses(NotRanking(), decomposition_of, LINE, three, (1, 2, 0))
