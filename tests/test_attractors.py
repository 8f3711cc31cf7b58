"""Points 29, 31 and 33."""

import itertools

from holdsalltrees.attractors import attractor, attractor_plan, is_trap
from holdsalltrees.games import Game
from tests.support import Case, seeded
from tests.test_games import fields, random_game

SMALL = Game([0, 1, 1, 0], [0, 0, 0, 0], [[1, 3], [2, 3], [3], [3]])


def rows_within(game, within):
    inside = range(len(game)) if within is None else within
    return {v: [u for u in game.successors[v] if u in inside] for v in inside}


def forced(game, player, goal, within, steps):
    """The vertices from which the goal can be forced in at most this number of moves, by the rules of the game."""
    rows = rows_within(game, within)
    if steps == 0:
        return set(goal)
    nearer = forced(game, player, goal, within, steps - 1)
    found = set(goal)
    for v, row in rows.items():
        hits = [u in nearer for u in row]
        if any(hits) if game.owners[v] == player else hits and all(hits):
            found.add(v)
    return found


def numbers(game, player, goal, within):
    answer = [None] * len(game)
    steps = 0
    before = None
    while True:
        found = forced(game, player, goal, within, steps)
        for v in found:
            if answer[v] is None:
                answer[v] = steps
        if found == before:
            return tuple(answer)
        before = found
        steps += 1


def trapped(game, player, vertices, within):
    rows = rows_within(game, within)
    for v in vertices:
        stays = [u in vertices for u in rows[v]]
        if game.owners[v] == player and not all(stays):
            return False
        if game.owners[v] != player and not any(stays):
            return False
    return True


def subsets(items):
    for many in range(len(items) + 1):
        yield from itertools.combinations(items, many)


def few_games(source, many):
    for _ in range(many):
        yield random_game(source, source.randint(1, 7), 4)


class AttractorTests(Case):
    def test_the_examples(self):
        self.example("""
>>> from holdsalltrees.games import Game
>>> from holdsalltrees.attractors import attractor, attractor_plan, is_trap
>>> game = Game([0, 1, 1, 0], [0, 0, 0, 0], [[1, 3], [2, 3], [3], [3]])
>>> attractor(game, 0, [2])
(None, None, 0, None)
>>> [attractor(game, 0, [3]), attractor_plan(game, 0, [3]), is_trap(game, 1, [2, 3])]
[(1, 2, 1, 0), (3, None, None, None), True]
""")

    def judge(self, game, player, goal, within):
        before = fields(game)
        found = self.ask(attractor, game, player, goal, within=within)
        self.same(found, numbers(game, player, goal, within))
        plan = self.ask(attractor_plan, game, player, goal, within=within)
        rows = rows_within(game, within)
        for v in range(len(game)):
            if game.owners[v] == player and found[v] not in (None, 0):
                self.same(plan[v], min(u for u in rows[v] if found[u] == found[v] - 1))
            else:
                self.same(plan[v], None)
        self.same(fields(game), before)
        self.assertEqual(len(plan), len(game))

    def test_all_goals_of_random_games(self):
        for game in few_games(seeded("goals"), 25):
            vertices = tuple(range(len(game)))
            for goal in subsets(vertices):
                for player in (0, 1):
                    self.judge(game, player, goal, None)

    def test_all_sets_of_random_games(self):
        source = seeded("within")
        for game in few_games(source, 20):
            for within in subsets(range(len(game))):
                goal = tuple(v for v in within if source.random() < 0.4)
                self.judge(game, source.randint(0, 1), goal, within)

    def test_large_games(self):
        source = seeded("forty")
        for _ in range(6):
            game = random_game(source, 40)
            within = tuple(v for v in range(40) if source.random() < 0.8)
            for player in (0, 1):
                self.judge(game, player, (0, 7, 39), None)
                self.judge(game, player, within[:3], within)

    def test_a_long_way(self):
        rows = [[max(v - 1, 0)] for v in range(40)]
        for player in (0, 1):
            game = Game([player] * 40, [0] * 40, rows)
            self.same(self.ask(attractor, game, player, (0,)), tuple(range(40)))
            self.same(self.ask(attractor, game, 1 - player, (0,)), tuple(range(40)))
            self.same(self.ask(attractor_plan, game, player, (0,)), (None,) + tuple(range(39)))
            self.same(self.ask(attractor_plan, game, 1 - player, (0,)), (None,) * 40)

    def test_the_other_player_takes_the_longest_way(self):
        game = Game([1, 0, 0, 0], [0] * 4, [[1, 2, 3], [3], [1], [3]])
        self.same(self.ask(attractor, game, 0, (3,)), (3, 1, 2, 0))
        self.same(self.ask(attractor, game, 1, (3,)), (1, 1, 2, 0))
        game = Game([0, 0, 0, 0], [0] * 4, [[1, 2], [3], [3], [3]])
        self.same(self.ask(attractor_plan, game, 0, (3,)), (1, 3, 3, None))

    def test_the_empty_goal_and_all_vertices(self):
        for game in few_games(seeded("empty"), 10):
            for player in (0, 1):
                self.same(self.ask(attractor, game, player, ()), (None,) * len(game))
                self.same(self.ask(attractor_plan, game, player, ()), (None,) * len(game))
                self.same(self.ask(attractor, game, player, (), within=()), (None,) * len(game))
                everything = tuple(range(len(game)))
                self.same(self.ask(attractor, game, player, everything), (0,) * len(game))
                self.same(attractor(game, player, (), within=everything), (None,) * len(game))

    def test_the_game_without_vertices(self):
        game = Game((), (), ())
        for player in (0, 1):
            self.same(self.ask(attractor, game, player, ()), ())
            self.same(self.ask(attractor_plan, game, player, (), within=()), ())
            self.same(self.ask(is_trap, game, player, ()), True)

    def test_vertices_without_a_successor_in_within(self):
        # Vertex 0 can only go to 3, which does not count: nobody can be forced there to anything.
        for owner in (0, 1):
            game = Game([owner, 0, 1, 0], [0] * 4, [[3], [0, 2], [1], [0]])
            for player in (0, 1):
                self.same(self.ask(attractor, game, player, (2,), within=(0, 1, 2))[0], None)
                self.same(self.ask(attractor, game, player, (3,), within=(3,)), (None, None, None, 0))
                self.same(self.ask(attractor_plan, game, player, (2,), within=(0, 1, 2))[0], None)
                self.judge(game, player, (2,), (0, 1, 2))
        game = Game([1, 1, 0], [0] * 3, [[1, 2], [1], [2]])
        self.same(self.ask(attractor, game, 0, (1,), within=(0, 1)), (1, 0, None))
        self.same(self.ask(attractor, game, 0, (1,)), (None, 0, None))

    def test_within_is_passed_by_name(self):
        self.assertRaises(TypeError, attractor, SMALL, 0, (3,), (0, 3))
        self.assertRaises(TypeError, attractor_plan, SMALL, 0, (3,), (0, 3))
        self.assertRaises(TypeError, is_trap, SMALL, 0, (3,), (0, 3))
        for player in (0, 1):
            self.same(attractor(SMALL, player, (3,), within=None), attractor(SMALL, player, (3,)))


class TrapTests(Case):
    def test_all_sets_of_random_games(self):
        for game in few_games(seeded("traps"), 25):
            for vertices in subsets(range(len(game))):
                for player in (0, 1):
                    self.same(self.ask(is_trap, game, player, vertices), trapped(game, player, vertices, None))

    def test_all_sets_within_all_sets(self):
        source = seeded("traps within")
        for _ in range(12):
            game = random_game(source, source.randint(1, 5), 4)
            for within in subsets(range(len(game))):
                for vertices in subsets(within):
                    for player in (0, 1):
                        found = self.ask(is_trap, game, player, vertices, within=within)
                        self.same(found, trapped(game, player, vertices, within))

    def test_the_empty_set(self):
        for player in (0, 1):
            self.same(self.ask(is_trap, SMALL, player, ()), True)
            self.same(self.ask(is_trap, SMALL, player, (), within=()), True)
            self.same(self.ask(is_trap, SMALL, player, (), within=(1, 2)), True)
            self.same(self.ask(is_trap, SMALL, player, (0, 1, 2, 3)), True)

    def test_vertices_without_a_successor_in_within(self):
        game = Game([0, 1], [0, 0], [[1], [0]])
        # The owner of a vertex that leads nowhere is no reason against a trap for this player.
        self.same(self.ask(is_trap, game, 0, (0,), within=(0,)), True)
        self.same(self.ask(is_trap, game, 1, (0,), within=(0,)), False)
        self.same(self.ask(is_trap, game, 1, (1,), within=(1,)), True)
        self.same(self.ask(is_trap, game, 0, (1,), within=(1,)), False)
        self.same(self.ask(is_trap, game, 0, (0,)), False)
        self.same(self.ask(is_trap, game, 1, (0,)), False)

    def test_what_an_attractor_leaves_is_a_trap(self):
        for game in few_games(seeded("left"), 60):
            for goal in subsets(range(len(game))):
                for player in (0, 1):
                    found = attractor(game, player, goal)
                    rest = tuple(v for v in range(len(game)) if found[v] is None)
                    self.same(is_trap(game, player, rest), True)
