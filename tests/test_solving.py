"""Point 38."""

from holdsalltrees.games import Game
from holdsalltrees.plays import losing_play
from holdsalltrees.solving import winners
from holdsalltrees.strategies import solved
from tests.searches import FOUR_LOOPS, TWO_LOOPS, drawn_game, winners_by_plans
from tests.support import Case, seeded
from tests.test_games import fields, random_game


def forty(source, priorities, most):
    """A game with 40 vertices and these priorities."""
    rows = [sorted(source.sample(range(40), source.randint(1, most))) for _ in range(40)]
    return Game([source.randint(0, 1) for _ in range(40)], [source.choice(priorities) for _ in range(40)], rows)


class WinnersTests(Case):
    def judge(self, game):
        """The winners, each of them shown by a plan that wins."""
        before = fields(game)
        found = self.ask(winners, game)
        self.assertEqual(len(found), len(game))
        moves = solved(game.owners, game.priorities, game.successors)[1]
        for player in (0, 1):
            won = tuple(v for v in range(len(game)) if found[v] == player)
            plan = tuple(moves[v] if v in won and game.owners[v] == player else None for v in range(len(game)))
            self.same(losing_play(game, player, plan, won), None)
        self.same(fields(game), before)
        return found

    def test_the_game_without_vertices(self):
        self.same(self.ask(winners, Game((), (), ())), ())

    def test_one_vertex(self):
        for priority in range(31):
            for owner in (0, 1):
                self.same(self.judge(Game([owner], [priority], [[0]])), (priority % 2,))

    def test_against_all_plans(self):
        source = seeded("winners")
        for _ in range(250):
            game = drawn_game(source, source.randint(1, 6), source.randint(0, 6))
            self.same(self.judge(game), winners_by_plans(game))

    def test_who_chooses(self):
        for owner in (0, 1):
            self.same(self.judge(Game([owner, 0, 0], [5, 2, 3], [[1, 2], [1], [2]])), (owner, 0, 1))
        self.same(self.judge(TWO_LOOPS), (0,) * 4)
        self.same(self.judge(FOUR_LOOPS), (0,) * 9)

    def test_turned_games(self):
        source = seeded("turned winners")
        for _ in range(60):
            game = random_game(source, source.randint(1, 12), 8)
            self.same(winners(game.turned()), tuple(1 - player for player in winners(game)))

    def test_40_vertices_and_9_priorities(self):
        source = seeded("forty winners")
        for most in (2, 3, 5, 40):
            for _ in range(12):
                priorities = source.sample(range(31), 9)
                self.judge(forty(source, priorities, most))
                self.judge(drawn_game(source, 40, 8, most))

    def test_games_that_are_hard_to_split(self):
        for levels in range(1, 10):
            for swap in (0, 1):
                self.judge(ladder(levels, swap))
        for _ in range(3):
            self.judge(ladder(9, 0))


def ladder(levels, swap):
    """A chain of vertices with rising priorities that can step back or aside, up to 40 vertices."""
    owners, priorities, rows = [], [], []
    many = 40
    for v in range(many):
        level = v % levels
        owners.append((v + swap) % 2)
        priorities.append(level)
        rows.append(sorted({(v + 1) % many, max(v - level - 1, 0), (v * 7 + 3) % many}))
    return Game(owners, priorities, rows)
