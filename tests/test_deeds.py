"""Points 78 and 79."""

import itertools

from holdsalltrees.branchings import branching_number
from holdsalltrees.climbing import climb
from holdsalltrees.deeds import after_deed, favours
from holdsalltrees.drawntrees import DrawnTree
from holdsalltrees.errors import BadDeed
from holdsalltrees.games import Game
from holdsalltrees.rankings import is_ranking
from holdsalltrees.universals import UniversalTree
from tests.deeds import after_by_words, drawn_deed, favours_by_words
from tests.machines import drawn_tree
from tests.searches import all_rankings, drawn_game, trees_by_sets
from tests.support import Case, seeded
from tests.test_games import fields, random_game

GAME = Game([0, 1, 0], [1, 2, 5], [[1], [0, 1], [0, 1, 2]])
GROW = ("grow", 1, 7, (0, 3))
# A value of each kind that may stand in a deed.
KINDS = [None, (), (0,), (1, 2), -1, 2, 3, 4, 31, 30, 10 ** 30, -10 ** 30]


def after_fields(game, deed):
    return fields(after_deed(game, deed))


class AfterTests(Case):
    def test_the_example(self):
        self.example("""
>>> from holdsalltrees.games import Game
>>> from holdsalltrees.deeds import after_deed, favours
>>> game = Game([0, 1], [1, 2], [[1], [0, 1]])
>>> [after_deed(game, ("cut", 1, 1)).successors, favours(game, ("cut", 1, 1)), favours(game, ("level", 0, 3))]
[((1,), (0,)), (True, False), (False, True)]
""")

    def judge(self, game, deed):
        """Whether the deed is possible."""
        before = fields(game)
        wanted = after_by_words(game, deed)
        if wanted is None:
            self.refuses(BadDeed(), after_deed, game, deed)
            self.refuses(BadDeed(), favours, game, deed)
        else:
            self.same(self.ask(after_fields, game, deed), wanted)
            self.assertIsInstance(after_deed(game, deed), Game)
            self.same(self.ask(favours, game, deed), favours_by_words(game, deed))
        self.same(fields(game), before)
        return wanted is not None

    def test_each_kind_of_deed(self):
        self.same(after_fields(GAME, ("add", 0, 0)), ((0, 1, 0), (1, 2, 5), ((0, 1), (0, 1), (0, 1, 2))))
        self.same(after_fields(GAME, ("add", 0, 2)), ((0, 1, 0), (1, 2, 5), ((1, 2), (0, 1), (0, 1, 2))))
        self.same(after_fields(GAME, ("cut", 2, 1)), ((0, 1, 0), (1, 2, 5), ((1,), (0, 1), (0, 2))))
        self.same(after_fields(GAME, ("level", 1, 30)), ((0, 1, 0), (1, 30, 5), ((1,), (0, 1), (0, 1, 2))))
        self.same(after_fields(GAME, ("give", 1, 0)), ((0, 0, 0), (1, 2, 5), ((1,), (0, 1), (0, 1, 2))))
        self.same(after_fields(GAME, GROW), ((0, 1, 0, 1), (1, 2, 5, 7), ((1,), (0, 1), (0, 1, 2), (0, 3))))

    def test_all_small_deeds(self):
        for word in ("add", "cut", "level", "give"):
            for v, item in itertools.product([-1, 0, 1, 2, 3, 30, 31, 10 ** 30], repeat=2):
                self.judge(GAME, (word, v, item))
        for player, priority in itertools.product((-1, 0, 1, 2), (-1, 0, 30, 31)):
            for row in ((), (0,), (3,), (4,), (-1,), (0, 0), (1, 0), (0, 1, 2, 3), (0, 1, 2, 3, 4), (2, 3)):
                self.judge(GAME, ("grow", player, priority, row))

    def test_drawn_deeds(self):
        source = seeded("deeds")
        right = 0
        for _ in range(600):
            game = random_game(source, source.randint(1, 7))
            right += self.judge(game, drawn_deed(source, game, 31))
        self.assertTrue(300 < right < 590, right)

    def test_too_few_and_too_many_items(self):
        for deed in (("add", 0, 2), ("cut", 1, 0), ("level", 0, 3), ("give", 0, 1), GROW):
            self.assertTrue(self.judge(GAME, deed))
            for many in range(len(deed)):
                self.assertFalse(self.judge(GAME, deed[:many]))
            for more in ((0,), (None,), ((),), (0,) * 5, (0,) * (25 - len(deed)), ((0, 1),) * (25 - len(deed))):
                self.assertFalse(self.judge(GAME, deed + more))

    def test_items_of_the_wrong_kind_at_each_place(self):
        for deed in (("add", 0, 2), ("cut", 1, 0), ("level", 0, 3), ("give", 0, 1), GROW):
            for place in range(1, len(deed)):
                for item in KINDS:
                    self.judge(GAME, deed[:place] + (item,) + deed[place + 1:])
                for item in (None, (), (0,), (1, 2)):
                    if place < 3:
                        self.assertFalse(self.judge(GAME, deed[:place] + (item,) + deed[place + 1:]))
        for row in (None, 0, 3, (None,), (0, None), ((0,),), (0, (1,))):
            self.assertFalse(self.judge(GAME, ("grow", 0, 0, row)))

    def test_words_that_are_no_deeds(self):
        for word in ("", "ADD", "adds", "ad", "undo", "trial", "tell", "Grow", "level ", " cut", "add\n", "remove"):
            for items in ((), (0, 2), (0, 0, (0,))):
                self.assertFalse(self.judge(GAME, (word,) + items))

    def test_edges_of_add_and_cut(self):
        self.assertFalse(self.judge(GAME, ("add", 0, 1)))
        self.assertFalse(self.judge(GAME, ("add", 2, 2)))
        self.assertFalse(self.judge(GAME, ("cut", 0, 1)))
        self.assertFalse(self.judge(GAME, ("cut", 1, 2)))
        self.assertTrue(self.judge(GAME, ("add", 1, 2)))
        self.assertTrue(self.judge(GAME, ("cut", 2, 2)))
        self.assertTrue(self.judge(GAME, ("level", 0, 1)))
        self.assertTrue(self.judge(GAME, ("give", 0, 0)))

    def test_the_game_without_vertices(self):
        empty = Game([], [], [])
        for word in ("add", "cut", "level", "give"):
            for v, item in itertools.product((-1, 0, 1), repeat=2):
                self.assertFalse(self.judge(empty, (word, v, item)))
        self.assertTrue(self.judge(empty, ("grow", 0, 3, (0,))))
        self.assertFalse(self.judge(empty, ("grow", 0, 3, (1,))))

    def test_12_vertices(self):
        source = seeded("deeds on 12")
        for vertices in (11, 12, 13, 40):
            game = random_game(source, vertices)
            self.same(self.judge(game, ("grow", 0, 8, (0, vertices))), vertices == 11)
            self.same(self.judge(game, ("grow", 1, 0, (vertices - 1,))), vertices == 11)
            self.assertTrue(self.judge(game, ("level", vertices - 1, 30)))
            self.assertTrue(self.judge(game, ("give", vertices - 1, 1)))
            for _ in range(20):
                self.judge(game, drawn_deed(source, game))


class FavourTests(Case):
    def test_levels(self):
        for old, new in itertools.product(range(31), repeat=2):
            found = self.ask(favours, Game([0], [old], [[0]]), ("level", 0, new))
            if old == new:
                self.same(found, (True, True))
            else:
                better = (new % 2 == 0 and old % 2 == 1) or (new % 2 == old % 2 == 0 and new > old)
                better = better or (new % 2 == old % 2 == 1 and new < old)
                self.same(found, (better, not better))

    def test_the_other_kinds(self):
        for owner in (0, 1):
            game = Game([owner, 1 - owner], [3, 3], [[0], [0, 1]])
            self.same(favours(game, ("add", 0, 1)), (owner == 0, owner == 1))
            self.same(favours(game, ("cut", 1, 1)), (owner == 0, owner == 1))
            for player in (0, 1):
                same = player == owner
                self.same(favours(game, ("give", 0, player)), (player == 0 or same, player == 1 or same))
                self.same(favours(game, ("grow", player, 5, (0,))), (True, True))

    def sides(self, before, deed):
        """The games before and after for each player whom the deed favours, from this player's side."""
        after = after_deed(before, deed)
        pair = favours(before, deed)
        if pair[0]:
            yield before, after
        if pair[1]:
            yield before.turned(), after.turned()

    def drawn(self, text, many, vertices, top):
        source = seeded(text)
        for _ in range(many):
            game = drawn_game(source, source.randint(1, vertices), top)
            deed = drawn_deed(source, game, top)
            if after_by_words(game, deed) is not None:
                yield source, game, deed

    def test_rankings_stay_rankings(self):
        words = set()
        for source, game, deed in self.drawn("favours and rankings", 150, 3, 4):
            words.add(deed[0])
            for before, after in self.sides(game, deed):
                height = max(before.height, after.height)
                order = DrawnTree(drawn_tree(source, 4, height), height)
                gap = (None,) * (len(after) - len(before))
                for ranks in all_rankings(before, order, range(order.size)):
                    self.same(is_ranking(after, order, ranks + gap), True)
        self.same(sorted(words), ["add", "cut", "give", "grow", "level"])

    def test_decompositions_stay_possible(self):
        for _, game, deed in self.drawn("favours and decompositions", 150, 5, 5):
            for before, after in self.sides(game, deed):
                found = trees_by_sets(after)
                for vertices, trees in trees_by_sets(before).items():
                    if trees:
                        least = min(branching_number(tree) for tree in trees)
                        self.assertTrue(found.get(vertices))
                        self.assertLessEqual(min(branching_number(tree) for tree in found[vertices]), least)

    def test_climbing_goes_on(self):
        for source, game, deed in self.drawn("favours and climbing", 300, 6, 5):
            after = after_deed(game, deed)
            if favours(game, deed)[1] and deed[0] != "grow":
                height = max(game.height, after.height)
                for order in (UniversalTree(len(game), height), DrawnTree(drawn_tree(source, 5, height), height)):
                    start = climb(game, order)
                    self.same(self.ask(climb, after, order, start=start), climb(after, order))
