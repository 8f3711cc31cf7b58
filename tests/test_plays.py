"""Points 30, 31 and 32."""

import itertools

from holdsalltrees.errors import NotAPlay, PlanGap
from holdsalltrees.games import Game
from holdsalltrees.plays import duel, losing_play, winner_of
from tests.searches import cycle_from, drawn_game, plays_from, reached, rows_under, subsets, wins
from tests.support import ODD_THINGS, Case, seeded
from tests.test_games import fields, random_game

PAIR = Game([0, 1], [2, 1], [[0, 1], [0, 1]])
# 0 -> 1 -> 2 -> 0 or 1, and 3 -> 3
RING = Game([0, 1, 0, 1], [3, 2, 1, 4], [[1], [2], [0, 1], [3]])


def first_fault(game, lead, ring):
    """The index that NotAPlay has, or None, number by number."""
    walk = list(lead) + list(ring)
    for index, number in enumerate(walk):
        if number not in range(len(game)):
            return index
        if index + 1 < len(walk):
            following = walk[index + 1]
        elif ring:
            following = ring[0]
        else:
            return index + 1
        if following not in game.successors[number]:
            return index
    return len(walk)


class WinnerTests(Case):
    def test_the_example(self):
        self.example("""
>>> from holdsalltrees.games import Game
>>> from holdsalltrees.plays import winner_of, duel
>>> game = Game([0, 1], [2, 1], [[0, 1], [0, 1]])
>>> [winner_of(game, [0], [1]), winner_of(game, [], [0, 1]), duel(game, (1, None), (None, 1), 0)]
[1, 0, ((0,), (1,))]
""")

    def test_the_greatest_priority_of_the_ring_decides(self):
        self.same(self.ask(winner_of, RING, (), (0, 1, 2)), 1)
        self.same(self.ask(winner_of, RING, (0,), (1, 2)), 0)
        self.same(self.ask(winner_of, RING, (0, 1, 2, 0), (1, 2)), 0)
        self.same(self.ask(winner_of, RING, (1, 2), (1, 2, 0, 1, 2)), 1)
        self.same(self.ask(winner_of, RING, (), (3,)), 0)
        self.same(self.ask(winner_of, RING, (3, 3), (3, 3)), 0)
        for priority in range(31):
            self.same(self.ask(winner_of, Game([0], [priority], [[0]]), (0,), (0,)), priority % 2)

    def test_a_number_that_is_no_vertex(self):
        for number in (4, 5, 99, -1, -4, 10 ** 40, -10 ** 40):
            self.refuses(NotAPlay(0), winner_of, RING, (), (number,))
            self.refuses(NotAPlay(0), winner_of, RING, (number,), (3,))
            self.refuses(NotAPlay(0), winner_of, RING, (number, number), ())
            self.refuses(NotAPlay(0), winner_of, RING, (number, 99), (number,))
            # The number before it has no such successor, so its index is the first one.
            self.refuses(NotAPlay(1), winner_of, RING, (0, 1, number), (0,))
            self.refuses(NotAPlay(0), winner_of, RING, (), (0, number))
        self.refuses(NotAPlay(0), winner_of, PAIR, (0, 99), (0,))

    def test_a_move_that_is_none(self):
        self.refuses(NotAPlay(0), winner_of, RING, (0, 2), (0, 1, 2))
        self.refuses(NotAPlay(1), winner_of, RING, (0, 1, 1), (2, 1))
        self.refuses(NotAPlay(2), winner_of, RING, (0, 1, 2), (2, 0, 1))
        self.refuses(NotAPlay(3), winner_of, RING, (0, 1), (2, 1, 0))
        self.refuses(NotAPlay(0), winner_of, RING, (3,), (0, 1, 2))

    def test_the_step_back_to_the_first_number_of_the_ring(self):
        self.refuses(NotAPlay(1), winner_of, RING, (), (0, 1))
        self.refuses(NotAPlay(2), winner_of, RING, (2,), (0, 1))
        self.refuses(NotAPlay(0), winner_of, RING, (), (0,))
        # Not to the first number of the lead.
        self.same(self.ask(winner_of, RING, (0, 1), (2, 1)), 0)
        self.refuses(NotAPlay(2), winner_of, RING, (1, 2), (0,))

    def test_an_empty_ring(self):
        self.refuses(NotAPlay(0), winner_of, RING, (), ())
        self.refuses(NotAPlay(1), winner_of, RING, (0,), ())
        self.refuses(NotAPlay(1), winner_of, RING, (3,), ())
        self.refuses(NotAPlay(4), winner_of, RING, (0, 1, 2, 1), ())
        self.refuses(NotAPlay(1), winner_of, RING, (0, 1, 0), ())
        self.refuses(NotAPlay(1), winner_of, RING, (1, 2, 7), ())
        self.refuses(NotAPlay(0), winner_of, RING, (-1,), ())

    def test_the_game_without_vertices(self):
        game = Game((), (), ())
        self.refuses(NotAPlay(0), winner_of, game, (), ())
        self.refuses(NotAPlay(0), winner_of, game, (), (0,))
        self.refuses(NotAPlay(0), winner_of, game, (0,), ())
        self.refuses(NotAPlay(0), winner_of, game, (-1, 0), (0,))

    def judge(self, game, lead, ring):
        fault = first_fault(game, lead, ring)
        if not ring or fault < len(lead) + len(ring):
            self.refuses(NotAPlay(fault), winner_of, game, lead, ring)
        else:
            most = max(game.priorities[vertex] for vertex in ring)
            self.same(self.ask(winner_of, game, lead, ring), most % 2)

    def test_all_short_sequences(self):
        source = seeded("plays")
        for _ in range(3):
            game = random_game(source, 3)
            for many in range(5):
                for walk in itertools.product(range(-1, 4), repeat=many):
                    at = source.randint(0, many)
                    self.judge(game, walk[:at], walk[at:])

    def test_plays_of_400_numbers(self):
        source = seeded("long plays")
        for _ in range(30):
            game = random_game(source, source.choice((2, 8, 40)))
            walk = [source.randrange(len(game))]
            while len(walk) < 400:
                walk.append(source.choice(game.successors[walk[-1]]))
            at = source.randint(0, 400)
            before = fields(game)
            self.judge(game, tuple(walk[:at]), tuple(walk[at:]))
            wrong = source.randrange(400)
            walk[wrong] = source.choice((-1, len(game), 10 ** 30, source.randrange(len(game))))
            self.judge(game, tuple(walk[:at]), tuple(walk[at:]))
            self.same(fields(game), before)
        loop = Game([0], [7], [[0]])
        self.same(self.ask(winner_of, loop, (0,) * 399, (0,)), 1)
        self.same(self.ask(winner_of, loop, (), (0,) * 400), 1)
        self.refuses(NotAPlay(400), winner_of, loop, (0,) * 400, ())
        self.refuses(NotAPlay(398), winner_of, loop, (0,) * 200, (0,) * 199 + (1,))


class DuelTests(Case):
    def follow(self, game, plans, start):
        walk = [start]
        while True:
            vertex = walk[-1]
            step = plans[game.owners[vertex]][vertex]
            step = min(game.successors[vertex]) if step is None else step
            if step in walk:
                at = walk.index(step)
                return tuple(walk[:at]), tuple(walk[at:])
            walk.append(step)

    def test_random_plans(self):
        source = seeded("duels")
        for _ in range(150):
            game = random_game(source, source.choice((1, 2, 3, 6, 12, 40)))
            plans = []
            for player in (0, 1):
                plan = []
                for v, steps in enumerate(game.successors):
                    own = game.owners[v] == player
                    plan.append(source.choice(steps + (None,)) if own else source.choice((None, 0, 7, "x", (1,), -3)))
                plans.append(tuple(plan))
            before = fields(game)
            for start in range(len(game)):
                self.same(self.ask(duel, game, plans[0], plans[1], start), self.follow(game, plans, start))
            self.same(fields(game), before)

    def test_what_stands_at_the_other_vertices_is_ignored(self):
        for thing in ODD_THINGS + [99, -1]:
            self.same(duel(RING, (None, thing, 1, thing), (thing, None, thing, None), 0), ((0,), (1, 2)))
            self.same(duel(RING, [1, thing, 0, thing], [thing, 2, thing, 3], 1), ((), (1, 2, 0)))

    def test_none_is_the_least_successor(self):
        game = Game([0, 1, 1], [0, 0, 0], [[1, 2], [0, 2], [2]])
        self.same(self.ask(duel, game, (None, None, None), (None, None, None), 0), ((), (0, 1)))
        self.same(self.ask(duel, game, (2, None, None), (None, None, None), 1), ((1, 0), (2,)))
        self.same(self.ask(duel, game, (None, None, None), (None, 2, None), 0), ((0, 1), (2,)))

    def test_a_long_way(self):
        game = Game([0] * 40, [0] * 40, [[min(v + 1, 39)] for v in range(40)])
        nothing = (None,) * 40
        self.same(self.ask(duel, game, nothing, nothing, 0), (tuple(range(39)), (39,)))
        game = Game([1] * 40, [0] * 40, [[(v + 1) % 40] for v in range(40)])
        self.same(self.ask(duel, game, nothing, nothing, 7), ((), tuple(range(7, 40)) + tuple(range(7))))


class LosingPlayTests(Case):
    def judge(self, game, player, plan, start):
        rows = [[] if row == (None,) else row for row in rows_under(game, player, plan)]
        gaps = [v for v in sorted(reached(rows, start)) if game.owners[v] == player and plan[v] is None]
        if gaps:
            self.refuses(PlanGap(gaps[0]), losing_play, game, player, plan, start)
            return
        play = self.ask(losing_play, game, player, plan, start)
        plays = [play for vertex in start for play in plays_from(rows, vertex)]
        lost = [one for one in plays if max(game.priorities[v] for v in one[1]) % 2 != player]
        self.same(play is None, not lost)
        self.same(play is None, wins(game, player, plan, start))
        if play is not None:
            lead, ring = play
            walk = lead + ring
            self.assertIn(walk[0], start)
            self.same(winner_of(game, lead, ring), 1 - player)
            for vertex, step in zip(walk, walk[1:] + ring[:1]):
                self.assertIn(step, rows[vertex])

    def test_all_plans_of_small_games(self):
        source = seeded("losing")
        for _ in range(30):
            game = drawn_game(source, source.randint(1, 4), 4)
            for player in (0, 1):
                choices = [steps + (None,) if game.owners[v] == player else ("any",)
                           for v, steps in enumerate(game.successors)]
                for plan in itertools.product(*choices):
                    start = source.choice(list(subsets(range(len(game)))))
                    self.judge(game, player, plan, start)

    def test_random_plans_of_larger_games(self):
        source = seeded("losing more")
        for _ in range(300):
            game = drawn_game(source, source.randint(5, 8), 6, 2)
            player = source.randint(0, 1)
            plan = tuple(
                source.choice(steps * 3 + (None,)) if game.owners[v] == player else source.choice((None, 0, "x", -1))
                for v, steps in enumerate(game.successors)
            )
            before = fields(game)
            self.judge(game, player, plan, tuple(v for v in range(len(game)) if source.random() < 0.3))
            self.same(fields(game), before)

    def test_the_least_reached_gap(self):
        game = Game([0, 0, 0, 1], [1] * 4, [[1], [2], [0], [1, 2]])
        self.refuses(PlanGap(0), losing_play, game, 0, (None, 2, 0, None), (1,))
        self.refuses(PlanGap(1), losing_play, game, 0, (None, None, None, None), (3,))
        self.refuses(PlanGap(2), losing_play, game, 0, (None, 2, None, None), (1, 3))
        self.refuses(PlanGap(2), losing_play, game, 0, (1, 2, None, None), (0,))
        self.refuses(PlanGap(3), losing_play, game, 1, (None, None, None, None), (3,))
        # What is not reached does not matter.
        self.same(self.ask(losing_play, game, 1, (None, None, None, None), (0,)), None)
        loops = Game([0, 0], [0, 0], [[0], [1]])
        self.same(self.ask(losing_play, loops, 0, (0, None), (0,)), None)
        self.refuses(PlanGap(1), losing_play, loops, 0, (0, None), (0, 1))
        # A gap counts even if there is a play that is lost elsewhere.
        loops = Game([0, 0], [1, 1], [[0], [1]])
        self.refuses(PlanGap(1), losing_play, loops, 0, (0, None), (0, 1))

    def test_the_empty_start(self):
        for game in (RING, PAIR, Game((), (), ())):
            for player in (0, 1):
                self.same(self.ask(losing_play, game, player, (None,) * len(game), ()), None)

    def test_40_vertices(self):
        source = seeded("forty vertices")
        for _ in range(20):
            game = random_game(source, 40, 8)
            for player in (0, 1):
                plan = tuple(steps[-1] if game.owners[v] == player else None
                             for v, steps in enumerate(game.successors))
                start = tuple(range(0, 40, 3))
                play = self.ask(losing_play, game, player, plan, start)
                rows = rows_under(game, player, plan)
                if play is None:
                    self.same(cycle_from(rows, game.priorities, start, 1 - player), False)
                else:
                    walk = play[0] + play[1]
                    self.assertIn(walk[0], start)
                    self.same(winner_of(game, *play), 1 - player)
                    self.assertTrue(all(u in rows[v] for v, u in zip(walk, walk[1:] + play[1][:1])))
        ring = Game([1] * 40, [0] * 39 + [1], [[(v + 1) % 40] for v in range(40)])
        self.same(winner_of(ring, *losing_play(ring, 0, (None,) * 40, (5,))), 1)
        self.same(losing_play(ring, 1, tuple((v + 1) % 40 for v in range(40)), (5,)), None)
