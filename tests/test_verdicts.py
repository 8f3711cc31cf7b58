"""Point 39."""

from holdsalltrees.games import Game
from holdsalltrees.plays import losing_play
from holdsalltrees.rankings import is_ranking
from holdsalltrees.solving import winners
from holdsalltrees.universals import UniversalTree
from holdsalltrees.verdicts import Verdict, verdict
from tests.searches import FOUR_LOOPS, TWO_LOOPS, drawn_game, winners_by_plans
from tests.support import Case, has_list, seeded
from tests.test_games import fields, random_game


def told(game):
    found = verdict(game)
    orders = tuple((order.leaves, order.height, order.branching) for order in found.orders)
    return (found.winners, orders, found.rankings, found.plans)


class VerdictTests(Case):
    def judge(self, game):
        before = fields(game)
        found = verdict(game)
        self.assertIsInstance(found, Verdict)
        sides = (game, game.turned())
        leaves = max(len(game), 1)
        for item in (found.winners, found.orders, found.rankings, found.plans):
            self.assertIsInstance(item, tuple)
            self.assertFalse(has_list(item))
        self.same(found.winners, winners(game))
        self.assertEqual((len(found.orders), len(found.rankings), len(found.plans)), (2, 2, 2))
        for player, side in enumerate(sides):
            order = found.orders[player]
            self.assertIsInstance(order, UniversalTree)
            self.same((order.leaves, order.height, order.branching), (leaves, side.height, None))
            won = tuple(v for v in range(len(game)) if found.winners[v] == player)
            ranks = found.rankings[player]
            self.assertEqual(len(ranks), len(game))
            self.same(is_ranking(side, order, ranks), True)
            self.same(tuple(v for v, rank in enumerate(ranks) if rank is not None), won)
            self.assertTrue(all(rank in order for rank in ranks if rank is not None))
            plan = found.plans[player]
            self.assertEqual(len(plan), len(game))
            for v, step in enumerate(plan):
                if game.owners[v] == player and v in won:
                    self.assertIn(step, game.successors[v])
                else:
                    self.same(step, None)
            self.same(losing_play(game, player, plan, won), None)
        self.same(self.ask(told, game), told(game))
        self.same(fields(game), before)
        return found

    def test_small_games(self):
        source = seeded("verdicts")
        for _ in range(120):
            game = drawn_game(source, source.randint(1, 6), source.randint(0, 8))
            self.same(self.judge(game).winners, winners_by_plans(game))

    def test_12_vertices_and_a_top_of_8(self):
        source = seeded("large verdicts")
        for most in (1, 2, 3, 12):
            for _ in range(8):
                self.judge(drawn_game(source, 12, 8, most))
                self.judge(random_game(source, 12, 8))
        self.judge(FOUR_LOOPS)
        self.judge(TWO_LOOPS)
        self.judge(TWO_LOOPS.turned())

    def test_rankings_that_have_to_climb_through_the_whole_tree(self):
        falling = [8, 7, 6, 5, 4, 3, 2, 1, 0, 1, 2, 3]
        for priorities in ([7] + [0, 1, 3, 5] * 2 + [7, 7, 7], falling, [7] * 12, [8] * 12):
            for owner in (0, 1):
                self.judge(Game([owner] * 12, priorities, [[(v + 1) % 12] for v in range(12)]))
                self.judge(Game([owner] * 12, priorities, [sorted({max(v - 1, 0), (v + 1) % 12}) for v in range(12)]))

    def test_the_game_without_vertices(self):
        found = self.judge(Game((), (), ()))
        self.same(told(Game((), (), ())), ((), ((1, 0, None), (1, 0, None)), ((), ()), ((), ())))
        self.same(found.winners, ())

    def test_one_vertex(self):
        for priority in range(9):
            for owner in (0, 1):
                found = self.judge(Game([owner], [priority], [[0]]))
                self.same(found.winners, (priority % 2,))
                self.same([order.height for order in found.orders], [(priority + 1) // 2, (priority + 2) // 2])
