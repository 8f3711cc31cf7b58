"""Points 35 and 37."""

import itertools

from holdsalltrees.climbing import climb
from holdsalltrees.drawntrees import DrawnTree
from holdsalltrees.errors import NotRanking, TooLow
from holdsalltrees.games import Game
from holdsalltrees.plays import losing_play
from holdsalltrees.rankings import is_ranking, plan_of_ranking
from holdsalltrees.trees import all_rows, tree_of_row
from holdsalltrees.universals import UniversalTree
from tests.searches import drawn_game, is_ranking_by_words, wins
from tests.support import Case, chain, perfect, seeded
from tests.test_games import fields, random_game

HUGE = UniversalTree(1000000, 12)


def orders_of(height):
    """Small leaf orders of this height."""
    found = [DrawnTree(tree_of_row(row, height), height) for many in range(1, 4) for row in all_rows(many, height)]
    found.extend(UniversalTree(many, height, branching=k) for many in (1, 2, 3) for k in (None, 1, 2))
    return found


def ranks_of(order):
    return list(range(order.size)) if isinstance(order, DrawnTree) else list(order.codes())


def small_games(source, many, vertices=3, top=4):
    for _ in range(many):
        yield drawn_game(source, source.randint(1, vertices), source.randint(0, top))


class Judge(Case):
    def judge(self, game, order, ranks):
        """Both functions, for a game that is not too high."""
        before = fields(game)
        right = is_ranking_by_words(game, order, ranks)
        self.same(self.ask(is_ranking, game, order, ranks), right)
        if not right:
            self.refuses(NotRanking(), plan_of_ranking, game, order, ranks)
            self.same(fields(game), before)
            return
        plan = self.ask(plan_of_ranking, game, order, ranks)
        self.assertEqual(len(plan), len(game))
        for v, rank in enumerate(ranks):
            if rank is None or game.owners[v] == 1:
                self.same(plan[v], None)
                continue
            fine = [u for u in game.successors[v]
                    if ranks[u] is not None and order.allows(rank, game.priorities[v], ranks[u])]
            self.same(plan[v], fine[0])
        start = tuple(v for v, rank in enumerate(ranks) if rank is not None)
        self.same(losing_play(game, 0, plan, start), None)
        self.assertTrue(wins(game, 0, plan, start))
        self.same(fields(game), before)


class RankingTests(Judge):
    def test_all_sequences_in_small_games(self):
        source = seeded("rankings")
        for game in small_games(source, 25):
            for order in source.sample(orders_of(game.height), 3):
                values = ranks_of(order)
                if len(values) > 4:
                    values = source.sample(values, 4)
                for ranks in itertools.product(values + [None], repeat=len(game)):
                    self.judge(game, order, ranks)

    def test_orders_that_are_higher_than_the_game(self):
        source = seeded("higher")
        for game in small_games(source, 25, 4, 3):
            for order in (DrawnTree(perfect(3), 3), UniversalTree(3, 4), UniversalTree(4, 3, branching=2)):
                least = climb(game, order)
                self.judge(game, order, least)
                values = ranks_of(order) + [None]
                for _ in range(20):
                    self.judge(game, order, tuple(source.choice(values) for _ in range(len(game))))

    def test_one_wrong_item(self):
        source = seeded("one wrong")
        many = 0
        for game in small_games(source, 60, 6, 5):
            for order in (DrawnTree(perfect(game.height, 3), game.height), UniversalTree(6, game.height)):
                ranks = climb(game, order)
                values = ranks_of(order) + [None]
                for v in range(len(game)):
                    for value in source.sample(values, min(4, len(values))):
                        changed = ranks[:v] + (value,) + ranks[v + 1:]
                        self.judge(game, order, changed)
                        many += not is_ranking(game, order, changed)
        self.assertGreater(many, 200)

    def test_what_each_owner_needs(self):
        order = DrawnTree(((), ()), 1)
        # Vertex 0 goes to 1, which has a rank, or to 2, which has none.
        for owner, right in ((0, True), (1, False)):
            game = Game([owner, 0, 0], [0, 0, 1], [[1, 2], [1], [2]])
            self.same(self.ask(is_ranking, game, order, (0, 0, None)), right)
            self.judge(game, order, (0, 0, None))
        # An odd priority demands a fall, an even one only no rise.
        game = Game([0, 1], [1, 0], [[1], [1]])
        self.same([is_ranking(game, order, ranks) for ranks in ((1, 0), (0, 0), (1, 1), (0, 1), (None, 1))],
                  [True, False, False, False, True])
        game = Game([0, 1], [2, 0], [[1], [1]])
        self.same([is_ranking(game, order, ranks) for ranks in ((1, 0), (0, 0), (0, 1), (0, None))],
                  [True, True, True, False])

    def test_the_least_successor_is_chosen(self):
        order = DrawnTree(((), (), ()), 1)
        game = Game([0, 0, 0, 0], [1, 0, 0, 0], [[0, 1, 2, 3], [1], [2], [3]])
        for ranks, step in (((2, 0, 1, 0), 1), ((2, None, 1, 0), 2), ((1, 2, 1, 0), 3), ((1, 1, 0, 0), 2)):
            self.same(self.ask(plan_of_ranking, game, order, ranks), (step, 1, 2, 3)[:1] + tuple(
                None if rank is None else v for v, rank in enumerate(ranks))[1:])

    def test_nothing_has_a_rank(self):
        for game in small_games(seeded("nothing"), 20, 12, 8):
            for order in (HUGE, DrawnTree(chain(12), 12)):
                ranks = (None,) * len(game)
                self.same(self.ask(is_ranking, game, order, ranks), True)
                self.same(self.ask(plan_of_ranking, game, order, ranks), ranks)

    def test_the_game_without_vertices(self):
        game = Game((), (), ())
        for order in (HUGE, UniversalTree(1, 0), DrawnTree((), 0)):
            self.same(self.ask(is_ranking, game, order, ()), True)
            self.same(self.ask(plan_of_ranking, game, order, ()), ())

    def test_universal_trees_that_are_too_large_to_be_built(self):
        source = seeded("huge")
        for order in (HUGE, UniversalTree(999999, 12, branching=5)):
            codes = [order.first]
            for _ in range(5):
                codes.append(order.after(codes[-1]))
            last = [order.last, order.before(order.last)]
            middle = [order.needed(codes[3], 13), order.needed(codes[0], 23), order.kept(order.last, 21)]
            values = codes + last + [code for code in middle if code is not None] + [None]
            right = 0
            for _ in range(150):
                game = random_game(source, source.randint(1, 40), source.randint(0, 24))
                ranks = tuple(source.choice(values) for _ in range(len(game)))
                self.same(self.ask(is_ranking, game, order, ranks), is_ranking_by_words(game, order, ranks))
                game = drawn_game(source, source.randint(1, 2), 2)
                self.judge(game, order, tuple(source.choice(values) for _ in range(len(game))))
                right += is_ranking(game, order, tuple(values[1] for _ in range(len(game))))
            self.assertGreater(right, 20)

    def test_a_ranking_that_falls_from_the_last_to_the_first_leaf(self):
        codes = [HUGE.last]
        for _ in range(38):
            codes.append(HUGE.before(codes[-1]))
        codes.append(HUGE.first)
        game = Game([0] * 40, [1] * 39 + [24], [[v + 1] for v in range(39)] + [[39]])
        self.same(self.ask(is_ranking, game, HUGE, tuple(codes)), True)
        self.same(plan_of_ranking(game, HUGE, codes), tuple(range(1, 40)) + (39,))
        self.refuses(NotRanking(), plan_of_ranking, game, HUGE, tuple(codes[:20] + codes[19:39]))

    def test_top_24_in_height_12(self):
        game = Game([0, 1], [24, 23], [[0, 1], [0]])
        order = DrawnTree((chain(11), chain(11)), 12)
        self.same(self.ask(is_ranking, game, order, (0, 1)), True)
        self.same(self.ask(is_ranking, game, order, (1, 0)), False)
        self.same(self.ask(is_ranking, game, order, (1, 1)), False)
        self.same(self.ask(plan_of_ranking, game, order, (0, 1)), (0, None))


class TooLowTests(Case):
    def test_orders_that_are_too_low(self):
        for top in range(1, 31):
            game = Game([0, 1], [top, 0], [[0, 1], [0, 1]])
            for height in range(13):
                order = UniversalTree(2, height)
                drawn = DrawnTree(chain(height), height)
                for one, rank in ((order, order.first), (order, order.last), (drawn, 0)):
                    for ranks in ((rank, rank), (None, None), (rank, None)):
                        if height < game.height:
                            self.refuses(TooLow(height), is_ranking, game, one, ranks)
                            self.refuses(TooLow(height), plan_of_ranking, game, one, ranks)
                        else:
                            self.assertIn(self.ask(is_ranking, game, one, ranks), (True, False))

    def test_too_low_comes_before_everything_else(self):
        game = Game([0, 0], [1, 3], [[0], [1]])
        order = DrawnTree(((),), 1)
        self.refuses(TooLow(1), is_ranking, game, order, (0, 0))
        self.refuses(TooLow(1), plan_of_ranking, game, order, (0, 0))
        self.refuses(TooLow(0), plan_of_ranking, game, UniversalTree(5, 0), ((), ()))
