"""Point 45."""

from holdsalltrees.branchings import branching_number
from holdsalltrees.decompositions import is_decomposition, tree_of, vertices_of
from holdsalltrees.games import Game
from holdsalltrees.numbering import decompose, numbers
from holdsalltrees.solving import winners
from tests.searches import FOUR_LOOPS, TWO_LOOPS, drawn_game, trees_by_sets
from tests.support import Case, seeded
from tests.test_games import fields, random_game


def least_numbers(game):
    """The numbers of the vertices that player 0 wins, by all decompositions."""
    found = {}
    for vertices, trees in trees_by_sets(game).items():
        if trees:
            least = min(branching_number(tree) for tree in trees)
            for v in vertices:
                found[v] = min(found.get(v, least), least)
    return found


def by_search(game):
    own, other = least_numbers(game), least_numbers(game.turned())
    return tuple((0, own[v]) if v in own else (1, other[v]) for v in range(len(game)))


class NumberTests(Case):
    def judge(self, game):
        """The numbers, and a decomposition for each number that may be asked for."""
        before = fields(game)
        known = self.ask(numbers, game)
        self.same(tuple(player for player, _ in known), winners(game))
        for side, mine in ((game, 0), (game.turned(), 1)):
            for number in range(1, 10):
                if side.top > 8 and number not in (1, 4):
                    continue
                paper = self.ask(decompose, side, number)
                self.same(is_decomposition(side, paper), True)
                self.assertLessEqual(branching_number(tree_of(paper)), number)
                fit = tuple(v for v, (player, least) in enumerate(known) if player == mine and least <= number)
                self.same(vertices_of(paper), fit)
        most = len(bin(len(game))) - 2 if len(game) > 0 else 0
        for player, number in known:
            self.assertLessEqual(number, most)
            self.assertGreaterEqual(number, 1)
            if player == 0:
                self.assertLessEqual(number, game.height + 1)
        self.same(fields(game), before)
        return known

    def test_the_example(self):
        self.example("""
>>> from holdsalltrees.games import Game
>>> from holdsalltrees.numbering import numbers
>>> numbers(Game([1, 1, 1, 0], [0, 1, 0, 3], [[0, 1], [2], [2], [3]]))
((0, 2), (0, 1), (0, 1), (1, 1))
""")

    def test_against_all_decompositions_of_small_games(self):
        source = seeded("numbers")
        for _ in range(50):
            game = drawn_game(source, source.randint(1, 5), source.randint(0, 6))
            self.same(self.judge(game), by_search(game))

    def test_games_with_the_number_2(self):
        source = seeded("number 2")
        many = [0, 0]
        while min(many) < 8:
            game = drawn_game(source, source.randint(3, 5), source.randint(1, 4), 2)
            known = numbers(game)
            for player in (0, 1):
                if (player, 2) in known and many[player] < 8:
                    many[player] += 1
                    self.same(self.judge(game), by_search(game))

    def test_both_players(self):
        source = seeded("both")
        for _ in range(40):
            game = random_game(source, source.randint(1, 12), 7)
            turned = tuple((1 - player, number) for player, number in numbers(game))
            self.same(numbers(game.turned()), turned)

    def test_two_and_four_loops(self):
        self.same(self.judge(TWO_LOOPS), ((0, 2),) * 4)
        self.same(self.judge(FOUR_LOOPS), ((0, 3),) * 4 + ((0, 2),) * 5)
        turned = Game([0] * 9, [priority + 1 for priority in FOUR_LOOPS.priorities], FOUR_LOOPS.successors)
        self.same(self.judge(turned), ((1, 3),) * 4 + ((1, 2),) * 5)
        self.same(self.ask(decompose, FOUR_LOOPS, 1), ((), ()))
        self.same(self.ask(decompose, turned, 9), ((), ()))
        # Greater priorities of the same kind change nothing.
        higher = Game([1] * 9, [priority + 4 for priority in FOUR_LOOPS.priorities], FOUR_LOOPS.successors)
        self.same(self.judge(higher), ((0, 3),) * 4 + ((0, 2),) * 5)

    def test_the_game_without_vertices(self):
        self.same(self.judge(Game((), (), ())), ())
        for number in range(1, 10):
            self.same(self.ask(decompose, Game((), (), ()), number), ((), ()))

    def test_one_vertex(self):
        for priority in range(9):
            for owner in (0, 1):
                self.same(self.judge(Game([owner], [priority], [[0]])), ((priority % 2, 1),))

    def test_12_vertices_and_a_top_of_8(self):
        source = seeded("large numbers")
        for most in (1, 2, 3, 12):
            for _ in range(8):
                self.judge(drawn_game(source, 12, 8, most))
        for owner in (0, 1):
            for priorities in ([8, 7, 6, 5, 4, 3, 2, 1, 0, 1, 2, 3], [0, 7, 0, 5, 0, 7, 0, 3, 0, 7, 0, 8], [0, 1] * 6):
                rows = [sorted({v, (v + 1) % 12}) for v in range(12)]
                self.judge(Game([owner] * 12, priorities, rows))
                self.judge(Game([owner, 1 - owner] * 6, priorities, rows))

    def test_light_parts_on_both_sides_of_a_heavy_one(self):
        # A loop of player 1 at 0 and 2, the vertices of TWO_LOOPS from 4 on, and loops at 9 and 11.
        rows = [[0], [0], [1, 2], [2], [4, 5], [6], [6, 7], [3, 4], [7], [8, 9], [9], [10, 11]]
        game = Game([1] * 12, [0, 3, 0, 3, 0, 1, 0, 2, 3, 0, 3, 0], rows)
        self.same(self.judge(game), ((0, 1),) * 2 + ((0, 2),) * 10)
        self.same(numbers(game.turned()), ((1, 1),) * 2 + ((1, 2),) * 10)

    def test_a_long_line_of_loops(self):
        # All loops of player 1 in one line need only the number 2.
        for top in (1, 3, 7):
            game = Game([1] * 12, [0, top] * 6, [[v, v + 1] if v % 2 == 0 else [min(v + 1, 11)] for v in range(12)])
            game = Game(game.owners, game.priorities, game.successors[:10] + ((10,), (10,)))
            self.same(self.judge(game), ((0, 2),) * 9 + ((0, 1),) * 3)
