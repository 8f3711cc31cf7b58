"""Points 36 and 40."""

from holdsalltrees.climbing import climb
from holdsalltrees.complete import capacity
from holdsalltrees.drawntrees import DrawnTree
from holdsalltrees.errors import TooLow
from holdsalltrees.games import Game
from holdsalltrees.rankings import is_ranking
from holdsalltrees.solving import winners
from holdsalltrees.trees import all_rows, tree_of_row
from holdsalltrees.universals import UniversalTree
from tests.searches import all_rankings, drawn_game, winners_by_plans
from tests.support import Case, chain, perfect, seeded
from tests.test_games import fields
from tests.test_rankings import orders_of, ranks_of, small_games


class ClimbTests(Case):
    def test_the_example(self):
        self.example("""
>>> from holdsalltrees.games import Game
>>> from holdsalltrees.drawntrees import DrawnTree
>>> from holdsalltrees.climbing import climb
>>> game = Game([0, 0, 1], [1, 2, 1], [[1], [1], [2]])
>>> [climb(game, DrawnTree(((), ()), 1)), climb(game, DrawnTree(((),), 1))]
[(1, 0, None), (None, 0, None)]
""")

    def least(self, game, order, start):
        """The least one of all rankings that are not below the start, found by a search."""
        values = ranks_of(order)
        places = {value: place for place, value in enumerate(values)}
        places[None] = len(values)
        found = []
        for ranks in all_rankings(game, order, values):
            if all(places[rank] >= places[first] for rank, first in zip(ranks, start)):
                found.append(ranks)
        best = tuple(min(items, key=places.get) for items in zip(*found))
        if len(game) > 0:
            self.assertIn(best, found)
        return best

    def test_against_a_search(self):
        source = seeded("climb")
        for game in small_games(source, 120):
            for order in source.sample(orders_of(game.height), 2):
                if order.size > 8:
                    continue
                before = fields(game)
                values = ranks_of(order)
                best = self.least(game, order, (order.first,) * len(game))
                self.same(self.ask(climb, game, order), best)
                self.same(self.ask(climb, game, order, start=None), best)
                self.same(self.ask(climb, game, order, start=(order.first,) * len(game)), best)
                for _ in range(4):
                    start = tuple(source.choice(values + [None]) for _ in range(len(game)))
                    self.same(self.ask(climb, game, order, start=start), self.least(game, order, start))
                self.same(fields(game), before)

    def test_none_stays_none(self):
        source = seeded("none stays")
        for game in small_games(source, 60, 12, 8):
            order = UniversalTree(4, game.height)
            self.same(self.ask(climb, game, order, start=(None,) * len(game)), (None,) * len(game))
            values = ranks_of(order)
            some = [None, order.first, order.last, source.choice(values), source.choice(values)]
            start = tuple(source.choice(some) for _ in range(len(game)))
            best = self.ask(climb, game, order, start=start)
            self.same(is_ranking(game, order, best), True)
            for rank, first in zip(best, start):
                if first is None:
                    self.same(rank, None)
                elif rank is not None:
                    self.assertFalse(order.less(rank, first))
            self.same(self.ask(climb, game, order, start=best), best)

    def test_the_start_is_a_ranking_already(self):
        game = Game([0, 1], [1, 0], [[1], [1]])
        order = DrawnTree(((), (), ()), 1)
        for start in ((1, 0), (2, 0), (2, 1), (None, 0), (None, None), (None, 2)):
            self.same(self.ask(climb, game, order, start=start), start)
        self.same(self.ask(climb, game, order, start=(0, 0)), (1, 0))
        self.same(self.ask(climb, game, order, start=(0, 1)), (2, 1))
        self.same(self.ask(climb, game, order, start=(0, 2)), (None, 2))
        self.same(self.ask(climb, game, order, start=(0, None)), (None, None))

    def test_the_game_without_vertices(self):
        game = Game((), (), ())
        for order in (UniversalTree(1, 0), UniversalTree(5, 3), DrawnTree((), 0), DrawnTree(perfect(3), 3)):
            self.same(self.ask(climb, game, order), ())
            self.same(self.ask(climb, game, order, start=()), ())

    def test_too_low(self):
        for top in range(1, 10):
            game = Game([0, 1], [top, 0], [[0, 1], [0, 1]])
            for height in range(6):
                for order in (UniversalTree(2, height), DrawnTree(chain(height), height)):
                    for start in (None, (order.first, None), (None, None), (order.last, order.last)):
                        if height < game.height:
                            self.refuses(TooLow(height), climb, game, order, start=start)
                        else:
                            self.same(is_ranking(game, order, self.ask(climb, game, order, start=start)), True)

    def test_start_is_passed_by_name(self):
        self.assertRaises(TypeError, climb, Game([0], [0], [[0]]), UniversalTree(1, 0), None)

    def test_orders_of_700_leaves(self):
        # A way of 12 vertices that falls at each step, and a loop that never stops climbing.
        wide = DrawnTree(((),) * 700, 1)
        way = Game([0] * 12, [1] * 11 + [2], [[v + 1] for v in range(11)] + [[11]])
        self.same(self.ask(climb, way, wide), tuple(range(11, -1, -1)))
        loop = Game([0, 1] * 6, [1] * 12, [[(v + 1) % 12] for v in range(12)])
        self.same(climb(loop, wide), (None,) * 12)
        self.same(climb(loop, wide, start=[699] * 12), (None,) * 12)
        source = seeded("700 leaves")
        universal = UniversalTree(28, 4)
        self.assertLessEqual(universal.size, 700)
        self.assertGreater(universal.size, 350)
        drawn = DrawnTree(universal.grown(), 4)
        codes = list(universal.codes())
        for _ in range(25):
            game = drawn_game(source, 12, 8)
            best = climb(game, universal)
            self.same(is_ranking(game, universal, best), True)
            self.same(best, tuple(None if rank is None else codes[rank] for rank in climb(game, drawn)))
            self.same([int(rank is None) for rank in best], list(winners(game)))
        game = Game([1] * 12, [7] + [0, 1, 3, 5] * 2 + [7, 7, 7], [[(v + 1) % 12] for v in range(12)])
        self.same(climb(game, universal), (None,) * 12)
        narrow = UniversalTree(1, 12)
        self.same(climb(Game([1] * 12, [0] * 12, [[v] for v in range(12)]), narrow), (("",) * 12,) * 12)


class FactTests(Case):
    def test_a_vertex_with_a_rank_is_won_by_player_0(self):
        source = seeded("sound")
        for game in small_games(source, 150, 5, 5):
            won = winners_by_plans(game)
            for order in source.sample(orders_of(game.height), 3):
                for vertex, rank in enumerate(climb(game, order)):
                    self.assertTrue(rank is None or won[vertex] == 0)

    def test_complete_trees_find_every_vertex_that_player_0_wins(self):
        source = seeded("complete orders")
        many = 0
        for height in (1, 2):
            for leaves in range(1, 7):
                for row in all_rows(leaves, height):
                    tree = tree_of_row(row, height)
                    most = capacity(tree, height)
                    if most < 2 or source.random() < 0.5:
                        continue
                    order = DrawnTree(tree, height)
                    for _ in range(6):
                        game = drawn_game(source, source.randint(1, most), 2 * height)
                        self.same([int(rank is None) for rank in climb(game, order)], list(winners_by_plans(game)))
                        many += 1
        self.assertGreater(many, 60)

    def test_universal_trees_find_every_vertex_that_player_0_wins(self):
        source = seeded("universal orders")
        for _ in range(120):
            game = drawn_game(source, source.randint(1, 6), source.randint(0, 8), 2)
            order = UniversalTree(source.choice((len(game), len(game) + 2)), game.height + source.randint(0, 1))
            ranks = climb(game, order)
            self.same([int(rank is None) for rank in ranks], list(winners_by_plans(game)))
            self.same(is_ranking(game, order, ranks), True)
