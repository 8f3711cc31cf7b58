"""Points 41, 42 and 43."""

from holdsalltrees.decompositions import is_decomposition, plan_of, tree_of, vertices_of
from holdsalltrees.errors import NotDecomposition
from holdsalltrees.games import Game
from holdsalltrees.numbering import decompose
from holdsalltrees.plays import losing_play
from holdsalltrees.solving import winners
from tests.searches import FOUR_LOOPS, TWO_LOOPS, all_papers, drawn_game, top_of, trapped
from tests.support import Case, seeded
from tests.test_games import fields

EMPTY = ((), ())
# Two loops of player 1, one behind the other.
LINE = Game([1, 1, 1], [0, 1, 0], [[0, 1], [2], [2]])
PAPER = ((), ((((2,), ()), (1,)), (((0,), ()), ())))
# Player 0 goes from 3 to 2, from 2 to 1, and from 1 to 0 with the priority 4; 4 to 6 are a ring with
# the greatest priority 2, and player 1 leads from 7 to 6 or 0. Nothing leads out of 8.
MIXED = Game(
    [0, 0, 1, 0, 1, 0, 0, 1, 0],
    [4, 3, 1, 0, 2, 0, 1, 3, 4],
    [[0, 8], [0, 1], [1], [2, 3], [5], [6], [4], [0, 6], [8]],
)
MIXED_PAPER = ((0, 1, 2, 3, 8), ((((4, 5, 6), ()), (7,)),))


def changed_sets(paper, change):
    """All papers in which one vertex set is replaced by one of those that `change` gives for it."""
    top, parts = paper
    for other in change(top):
        yield (other, parts)
    for index, (part, pulled) in enumerate(parts):
        before, after = parts[:index], parts[index + 1:]
        for other in changed_sets(part, change):
            yield (top, before + ((other, pulled),) + after)
        for other in change(pulled):
            yield (top, before + ((part, other),) + after)


def changed_parts(paper, change):
    """All papers in which one sequence of parts is replaced by one of those that `change` gives for it."""
    top, parts = paper
    for other in change(parts):
        yield (top, other)
    for index, (part, pulled) in enumerate(parts):
        for other in changed_parts(part, change):
            yield (top, parts[:index] + ((other, pulled),) + parts[index + 1:])


def other_sets(game):
    everything = set(range(len(game)))

    def change(vertices):
        for vertex in everything - set(vertices):
            yield tuple(sorted(vertices + (vertex,)))
        for vertex in vertices:
            yield tuple(other for other in vertices if other != vertex)

    return change


def other_parts(parts):
    yield parts + ((EMPTY, ()),)
    yield ((EMPTY, ()),) + parts
    for index, (part, pulled) in enumerate(parts):
        yield parts[:index] + parts[index + 1:]
        yield parts[:index] + (parts[index],) + parts[index:]
        # One level more, or one less.
        yield parts[:index] + ((((), ((part, ()),)), pulled),) + parts[index + 1:]
        if not part[0] and len(part[1]) == 1:
            yield parts[:index] + ((part[1][0][0], pulled),) + parts[index + 1:]
        if index > 0:
            yield parts[:index - 1] + (parts[index], parts[index - 1]) + parts[index + 1:]
            # Two parts become one.
            one, two = parts[index - 1][0], part
            joined = (tuple(sorted(one[0] + two[0])), one[1] + two[1])
            pair = (joined, tuple(sorted(parts[index - 1][1] + pulled)))
            yield parts[:index - 1] + (pair,) + parts[index + 1:]


class FormTests(Case):
    def test_the_example(self):
        self.example("""
>>> from holdsalltrees.games import Game
>>> from holdsalltrees.decompositions import vertices_of, tree_of, is_decomposition
>>> game = Game([1, 1, 1], [0, 1, 0], [[0, 1], [2], [2]])
>>> paper = ((), ((((2,), ()), (1,)), (((0,), ()), ())))
>>> [vertices_of(paper), tree_of(paper), is_decomposition(game, paper)]
[(0, 1, 2), ((), ()), True]
""")

    def test_vertices(self):
        self.same(self.ask(vertices_of, EMPTY), ())
        self.same(self.ask(vertices_of, MIXED_PAPER), tuple(range(9)))
        self.same(self.ask(vertices_of, ((3, 7), ())), (3, 7))
        deep = ((9,), ((((0, 5), ()), (3,)), (((), ((((1,), ()), (8,)),)), (2,))))
        self.same(self.ask(vertices_of, deep), (0, 1, 2, 3, 5, 8, 9))

    def test_vertices_of_sets_that_are_not_disjoint(self):
        self.same(self.ask(vertices_of, ((0, 2), ((((0, 1), ()), (1, 2)),))), (0, 1, 2))
        self.same(self.ask(vertices_of, ((), ((((5,), ()), (5,)), (((5,), ()), (5,))))), (5,))
        self.same(self.ask(vertices_of, ((39,), ((((39,), ((((0, 39), ()), ()),)), (0,)),))), (0, 39))

    def test_trees(self):
        self.same(self.ask(tree_of, EMPTY), ())
        self.same(self.ask(tree_of, ((1, 2, 3), ())), ())
        self.same(self.ask(tree_of, MIXED_PAPER), ((),))
        deep = ((), ((((), ((((0,), ()), ()), (((1,), ()), ()))), (2,)), (((3,), ()), ())))
        self.same(self.ask(tree_of, deep), (((), ()), ()))

    def test_12_parts_deep_and_200_parts(self):
        paper, tree = ((0,), ()), ()
        for vertex in range(1, 13):
            paper, tree = ((), ((paper, (vertex,)),)), (tree,)
        self.same(self.ask(vertices_of, paper), tuple(range(13)))
        self.same(self.ask(tree_of, paper), tree)
        many = ((39,), tuple((((v % 40,), ()), ()) for v in range(200)))
        self.same(self.ask(vertices_of, many), tuple(range(40)))
        self.same(self.ask(tree_of, many), ((),) * 200)


class Judge(Case):
    def right(self, game, paper):
        before = fields(game)
        self.same(self.ask(is_decomposition, game, paper), True)
        plan = self.ask(plan_of, game, paper)
        self.judge_plan(game, paper, plan)
        self.same(fields(game), before)

    def judge_plan(self, game, paper, plan):
        self.assertEqual(len(plan), len(game))
        inside = vertices_of(paper)
        for v, step in enumerate(plan):
            if v in inside and game.owners[v] == 0:
                self.assertIn(step, game.successors[v])
                self.assertIn(step, inside)
            else:
                self.same(step, None)
        self.same(losing_play(game, 0, plan, inside), None)

    def wrong(self, game, paper):
        self.same(self.ask(is_decomposition, game, paper), False)
        self.refuses(NotDecomposition(), plan_of, game, paper)


class DecompositionTests(Judge):
    def test_right_ones(self):
        self.right(LINE, PAPER)
        self.right(LINE, ((), ((((2,), ()), (1,)),)))
        self.right(LINE, ((), ((((2,), ()), ()),)))
        self.right(MIXED, MIXED_PAPER)
        self.right(MIXED, ((0, 1, 8), MIXED_PAPER[1]))
        self.right(MIXED, ((0, 8), ()))
        self.right(MIXED, ((8,), ()))

    def test_the_empty_one(self):
        for game in (Game((), (), ()), LINE, MIXED, Game([0], [1], [[0]]), FOUR_LOOPS):
            self.right(game, EMPTY)
            self.wrong(game, ((), ((EMPTY, ()),)))

    def test_the_level_is_that_of_the_game(self):
        loop = Game([0, 0], [0, 5], [[0], [1]])
        paper = ((0,), ())
        for _ in range(3):
            self.wrong(loop, paper)
            paper = ((), ((paper, ()),))
        self.right(loop, paper)
        self.wrong(loop, ((), ((paper, ()),)))
        self.same(self.ask(plan_of, loop, paper), (0, None))
        for priority in range(31):
            game = Game([1], [priority], [[0]])
            right = ((0,), ())
            if priority % 2 == 0:
                self.right(game, right)
            else:
                self.wrong(game, right)
            self.wrong(game, ((), ((((0,), ()), ()),)))
            self.wrong(game, ((), ((EMPTY, (0,)),)))

    def test_against_all_decompositions_of_small_games(self):
        source = seeded("papers")
        right = wrong = 0
        for _ in range(110):
            game = drawn_game(source, source.randint(1, 4), source.randint(0, 4))
            papers = all_papers(game)
            self.assertEqual(len(set(papers)), len(papers))
            for paper in source.sample(papers, min(6, len(papers))):
                self.right(game, paper)
                right += 1
                others = list(changed_sets(paper, other_sets(game))) + list(changed_parts(paper, other_parts))
                for other in source.sample(others, min(12, len(others))):
                    if other in papers:
                        self.right(game, other)
                    else:
                        self.wrong(game, other)
                        wrong += 1
        self.assertGreater(right, 300)
        self.assertGreater(wrong, 1500)

    def test_all_changes_of_a_few(self):
        for game, paper in ((LINE, PAPER), (TWO_LOOPS, decompose(TWO_LOOPS, 2))):
            papers = all_papers(game)
            self.assertIn(paper, papers)
            for other in list(changed_sets(paper, other_sets(game))) + list(changed_parts(paper, other_parts)):
                self.same(is_decomposition(game, other), other in papers)
        for game, paper in ((MIXED, MIXED_PAPER), (FOUR_LOOPS, decompose(FOUR_LOOPS, 3))):
            for other in changed_sets(paper, other_sets(game)):
                # A set of the vertices alone decides what its top is.
                inside = vertices_of(other)
                if is_decomposition(game, other):
                    self.assertTrue(trapped(game, 1, inside, range(len(game))))
                    self.same(other[0], tuple(sorted(top_of(game, frozenset(inside), game.height))))


class FaultTests(Judge):
    """One fault of each kind that point 42 names."""

    def test_sets_that_are_not_disjoint(self):
        self.wrong(LINE, ((), ((((2,), ()), (1, 2)), (((0,), ()), ()))))
        self.wrong(LINE, ((2,), ((((2,), ()), (1,)), (((0,), ()), ()))))
        self.wrong(LINE, ((), ((((2,), ()), (1,)), (((2,), ()), ()), (((0,), ()), ()))))
        self.wrong(LINE, ((), ((((2,), ()), (1,)), (((0,), ()), (1,)))))
        self.wrong(MIXED, ((0, 1, 2, 3, 7, 8), ((((4, 5, 6), ()), (7,)),)))

    def test_sets_that_are_not_ascending(self):
        self.wrong(MIXED, ((8, 3, 2, 1, 0), MIXED_PAPER[1]))
        self.wrong(MIXED, ((0, 1, 2, 3, 8), ((((4, 6, 5), ()), (7,)),)))
        self.wrong(MIXED, ((0, 0, 1, 2, 3, 8), MIXED_PAPER[1]))

    def test_a_top_that_is_not_the_attractor(self):
        self.wrong(MIXED, ((0, 1, 2, 8), ((((4, 5, 6), ()), (3, 7)),)))
        self.wrong(MIXED, ((0, 1, 2, 3, 7, 8), ((((4, 5, 6), ()), ()),)))
        # 3 must be in the top, and cannot be a part instead.
        self.wrong(MIXED, ((0, 1, 2, 8), ((((), ((((3,), ()), ()),)), ()), (((4, 5, 6), ()), (7,)))))
        # No vertex has the priority 2 at this level.
        self.wrong(LINE, ((0, 1, 2), ()))
        self.wrong(LINE, ((2,), ((((0,), ()), (1,)),)))

    def test_a_pulled_set_that_is_not_the_attractor(self):
        self.wrong(LINE, ((), ((((2,), ()), ()), (((0,), ()), ()))))
        self.wrong(LINE, ((), ((((2,), ()), ()), (((0,), ()), (1,)))))
        self.wrong(LINE, ((), ((((2,), ()), (0, 1)),)))
        game = Game([1, 1, 1], [0, 0, 1], [[1], [1], [1]])
        self.right(game, ((), ((((1,), ()), (0, 2)),)))
        self.right(game, ((), ((((0, 1), ()), (2,)),)))
        self.wrong(game, ((), ((((1,), ()), (0,)), (((2,), ()), ()))))
        self.wrong(game, ((), ((((1,), ()), (2,)), (((0,), ()), ()))))
        self.wrong(game, ((), ((((0, 1), ()), (0, 2)),)))

    def test_an_empty_part(self):
        self.wrong(LINE, ((), ((EMPTY, ()),) + PAPER[1]))
        self.wrong(LINE, ((), PAPER[1] + ((EMPTY, ()),)))
        self.wrong(LINE, ((), ((((2,), ()), (1,)), (EMPTY, (0,)))))

    def test_a_part_that_is_no_trap(self):
        # From 0 player 1 can go to 1, as long as 1 is there.
        self.wrong(LINE, ((), ((((0,), ()), ()), (((2,), ()), (1,)))))
        # Player 0 must have a successor inside.
        game = Game([0, 0], [0, 1], [[1], [1]])
        self.wrong(game, ((), ((((0,), ()), ()),)))
        game = Game([0, 0], [0, 0], [[1], [0]])
        self.right(game, ((0, 1), ()))
        game = Game([0, 0, 1], [0, 0, 1], [[1], [0], [0]])
        self.right(game, ((), ((((0, 1), ()), (2,)),)))
        self.wrong(game, ((), ((((0,), ()), (1, 2)),)))

    def test_a_part_that_is_no_decomposition(self):
        self.wrong(LINE, ((), ((((1, 2), ()), ()), (((0,), ()), ()))))
        self.wrong(LINE, ((), ((((), ((((2,), ()), ()),)), (1,)), (((0,), ()), ()))))
        game = Game([1, 1], [2, 3], [[0], [1]])
        self.right(game, ((), ((((0,), ()), ()),)))
        self.wrong(game, ((), ((((), ((((0,), ()), ()),)), ()),)))
        self.wrong(game, ((), ((((0, 1), ()), ()),)))

    def test_a_rest_that_is_not_empty(self):
        # The vertex 7 is in a set that it does not belong to, and in the right place there is nothing.
        self.wrong(MIXED, ((0, 1, 2, 3, 8), ((((4, 5, 6), ()), ()), (((), ()), (7,)))))
        game = Game([1, 1], [1, 0], [[1], [1]])
        self.right(game, ((), ((((1,), ()), (0,)),)))
        self.wrong(game, ((0,), ((((1,), ()), ()),)))
        # After the last pair, or without any pair, something of X is left.
        self.wrong(game, ((0, 1), ()))
        self.wrong(LINE, ((), ((((2,), ()), (1,)), (((), ((((0,), ()), ()),)), ()))))

    def test_a_set_that_is_no_trap_in_the_game(self):
        self.wrong(LINE, ((), ((((0,), ()), ()),)))
        self.wrong(LINE, ((), ((((2,), ()), ()), (((0,), ()), ()))))
        game = Game([0, 1], [0, 0], [[1], [0, 1]])
        self.wrong(game, ((0,), ()))
        self.wrong(game, ((1,), ()))
        self.right(game, ((0, 1), ()))

    def test_a_priority_that_is_too_great(self):
        # The priority 1 of a loop of player 0.
        game = Game([0, 0], [1, 2], [[0], [1]])
        self.right(game, ((1,), ()))
        self.wrong(game, ((0, 1), ()))
        self.wrong(game, ((1,), ((((0,), ()), ()),)))
        self.wrong(game, ((1,), ((((), ((((0,), ()), ()),)), ()),)))


class LargeTests(Judge):
    def test_12_parts_deep(self):
        # In the part of each depth there is one vertex with its even priority, and it leads on to itself.
        rows = [[v] for v in range(13)]
        game = Game([0, 1] * 6 + [0], [24 - 2 * v for v in range(13)], rows)
        paper = ((12,), ())
        for vertex in range(11, -1, -1):
            paper = ((vertex,), ((paper, ()),))
        self.right(game, paper)
        self.wrong(game, ((), ((paper, ()),)))
        self.wrong(game, paper[1][0][0])
        for other in changed_sets(paper, other_sets(game)):
            self.same(is_decomposition(game, other), one_by_one(other))

    def test_40_vertices(self):
        game = Game([1] * 40, [0] * 39 + [1], [[v] for v in range(40)])
        self.right(game, ((), tuple((((v,), ()), ()) for v in range(39))))
        self.right(game, ((), tuple((((v,), ()), ()) for v in range(38, -1, -1))))
        self.right(game, ((), ((((tuple(range(39))), ()), ()),)))
        self.wrong(game, ((), tuple((((v,), ()), ()) for v in range(40))))
        chained = Game([0] * 40, [2] + [0, 1] * 19 + [1], [[max(v - 1, 0)] for v in range(40)])
        self.right(chained, (tuple(range(40)), ()))
        self.wrong(chained, (tuple(range(39)), ((((39,), ()), ()),)))

    def test_200_parts(self):
        game = Game([0] * 40, [30] * 20 + [0] * 20, [[v] for v in range(40)])
        top = tuple(range(20))
        self.wrong(game, (top, tuple((((20 + v % 20,), ()), ()) for v in range(200))))
        # Fifteen parts deep would be needed here.
        deep = (tuple(range(20, 40)), ())
        for _ in range(11):
            deep = ((), ((deep, ()),))
        self.wrong(game, (top, ((deep, ()),)))
        for _ in range(3):
            deep = ((), ((deep, ()),))
        self.right(game, (top, ((deep, ()),)))
        # Ten copies of a level, with twenty parts each.
        game = Game([1] * 40, [0] * 20 + [20] * 20, [[v] for v in range(40)])
        parts = []
        for vertex in range(20):
            part = ((vertex,), ())
            for _ in range(9):
                part = ((), ((part, ()),))
            parts.append((part, ()))
        self.right(game, (tuple(range(20, 40)), tuple(parts)))
        self.wrong(game, (tuple(range(20, 40)), tuple(parts[:-1] + parts[:1])))

    def test_larger_games(self):
        source = seeded("larger papers")
        for _ in range(40):
            game = drawn_game(source, 12, 8)
            for number in (1, 2, 3):
                paper = decompose(game, number)
                self.right(game, paper)
                self.assertTrue(all(winners(game)[v] == 0 for v in vertices_of(paper)))


def one_by_one(paper):
    """Whether each set has the vertex of its depth or none, and the last one has it: for the chain of 13 loops."""
    depth = 0
    while paper[0] in ((), (depth,)):
        if not paper[1]:
            return paper[0] == (depth,)
        (paper, pulled), = paper[1]
        if pulled:
            return False
        depth += 1
    return False
