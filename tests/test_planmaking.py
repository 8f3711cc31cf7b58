"""Point 53."""

from holdsalltrees.attractors import attractor_plan
from holdsalltrees.branchings import branching_number
from holdsalltrees.decompositions import is_decomposition, tree_of, vertices_of
from holdsalltrees.decomposing import decompose_by
from holdsalltrees.errors import NotDecomposition
from holdsalltrees.games import Game
from holdsalltrees.numbering import decompose
from holdsalltrees.planmaking import register_plan
from holdsalltrees.registerplans import is_register_plan
from tests.searches import FOUR_LOOPS, TWO_LOOPS, all_papers, drawn_game, options
from tests.support import Case, perfect, random_tree, seeded
from tests.test_decompositions import EMPTY, LINE, MIXED, MIXED_PAPER, PAPER
from tests.test_games import fields
from tests.test_registerplans import positions_under


def innermost(paper, vertex, level):
    """The innermost part with the vertex, and its level (2 * j)."""
    for part, _ in paper[1]:
        if vertex in vertices_of(part):
            return innermost(part, vertex, level - 2)
    return paper, level


def step_of(game, paper, place):
    """What player 0 does at a position, by the words of the point."""
    vertex, row = place
    (top, parts), level = innermost(paper, vertex, 2 * game.height)
    inside = vertices_of((top, parts))
    own = game.owners[vertex] == 0
    priority = game.priorities[vertex]
    if priority == level:
        most = branching_number(tree_of((top, parts)))
        odd = [which for which in range(1, most + 1) if max(row[which - 1], priority) % 2 == 1]
        which = max(odd) if odd else most
        return which, min(u for u in game.successors[vertex] if u in inside) if own else None
    if not own:
        return 0, None
    if vertex in top:
        goal = [v for v in inside if game.priorities[v] == level]
        return 0, attractor_plan(game, 0, goal, within=inside)[vertex]
    rest = [v for v in inside if v not in top]
    for part, pulled in parts:
        goal = vertices_of(part)
        if vertex in pulled:
            return 0, attractor_plan(game, 0, goal, within=rest)[vertex]
        rest = [v for v in rest if v not in pulled and v not in goal]


class PlanMakingTests(Case):
    def judge(self, game, paper):
        before = fields(game)
        plan = self.ask(register_plan, game, paper)
        registers = branching_number(tree_of(paper))
        inside = vertices_of(paper)
        self.same(is_register_plan(game, registers, inside, plan), True)
        for place, said in plan:
            self.same(said, step_of(game, paper, place))
            self.assertEqual(len(place[1]), registers)
            self.assertIsNot(options(game, *place)[said[0]][2], None)
        places = [place for place, _ in plan]
        self.assertEqual(places, sorted(positions_under(game, registers, inside, plan)))
        self.same(fields(game), before)
        return plan

    def test_a_few(self):
        self.same(self.judge(Game([0], [2], [[0]]), ((0,), ())), (((0, (2,)), (1, 0)), ((0, (4,)), (1, 0))))
        self.same(self.judge(Game([1], [0], [[0]]), ((0,), ())), (((0, (0,)), (1, None)), ((0, (2,)), (1, None))))
        self.judge(LINE, PAPER)
        self.judge(LINE, ((), ((((2,), ()), (1,)),)))
        self.judge(MIXED, MIXED_PAPER)
        self.judge(MIXED, ((0, 8), ()))

    def test_nothing_is_decomposed(self):
        for game in (Game((), (), ()), LINE, MIXED, TWO_LOOPS):
            self.same(self.judge(game, EMPTY), ())

    def test_decompositions_of_small_games(self):
        source = seeded("made plans")
        many = 0
        for _ in range(150):
            game = drawn_game(source, source.randint(1, 4), source.randint(0, 6))
            papers = [paper for paper in all_papers(game) if branching_number(tree_of(paper)) <= 3]
            for paper in source.sample(papers, min(5, len(papers))):
                self.judge(game, paper)
                many += 1
        self.assertGreater(many, 250)

    def test_more_branching_than_is_needed(self):
        source = seeded("more branching")
        seen = set()
        for _ in range(60):
            game = drawn_game(source, source.randint(3, 8), source.randint(2, 6), 2)
            for tree in (perfect(2, 4), perfect(1, 8), random_tree(source, 30, 3)):
                paper = decompose_by(game, tree)
                if branching_number(tree_of(paper)) <= 3:
                    self.judge(game, paper)
                    seen.add(branching_number(tree_of(paper)))
        # Eight loops can be decomposed side by side, or in pairs of pairs.
        game = Game([1] * 8, [0] * 8, [[v] for v in range(8)])
        game = Game([1] * 9, [0] * 8 + [3], [[v] for v in range(8)] + [[0, 7]])

        def one(*vertices):
            return (tuple(vertices), ())

        def pair(left, right):
            return ((), ((left, ()), (right, ())))

        papers = [
            ((), tuple((((), ((one(v), ()),)), ()) for v in range(8))),
            ((), ((pair(one(0, 1, 2), one(3)), ()), (pair(one(4), one(5, 6, 7)), (8,)))),
            ((), ((pair(one(4, 5), one(6, 7)), ()), (pair(one(0, 1), one(2, 3)), (8,)))),
            ((), ((((), ((one(*range(8)), ()),)), (8,)),)),
        ]
        for paper, number in zip(papers, (2, 3, 3, 1)):
            self.same(is_decomposition(game, paper), True)
            self.same(branching_number(tree_of(paper)), number)
            self.judge(game, paper)
        self.assertLessEqual({1, 2}, seen)

    def test_10_of_12_vertices_and_a_top_of_8(self):
        source = seeded("large made plans")
        many = 0
        while many < 40:
            game = drawn_game(source, 12, 8, source.choice((2, 3, 12)))
            for number in (1, 2, 3):
                paper = decompose(game, number)
                if 0 < len(vertices_of(paper)) <= 10:
                    self.judge(game, paper)
                    many += 1
        game = Game(FOUR_LOOPS.owners + (0, 1, 0), FOUR_LOOPS.priorities + (8, 7, 8), FOUR_LOOPS.successors + (
            (0, 9), (9, 10), (11,)))
        for number in (2, 3):
            paper = decompose(FOUR_LOOPS, number)
            self.judge(FOUR_LOOPS, paper)
            # Two levels more.
            paper = ((11,), ((((), ((paper, ()),)), ()),))
            self.same(is_decomposition(game, paper), True)
            self.judge(game, paper)

    def test_the_eldest_odd_register_is_emptied(self):
        # Player 1 leads from 0 by 3 to 4. The part of 0 has the branching number 2, that of 4 the number 3.
        rows = [[0, 1, 2, 3], [1], [2], [4], [4, 5, 6, 7, 8], [5], [6], [7], [8]]
        game = Game([1] * 9, [4, 2, 2, 5, 4, 0, 0, 0, 0], rows)
        five, six, seven, eight = [(((v,), ()), ()) for v in range(5, 9)]
        last = ((4,), ((((), (five, six)), ()), (((), (seven, eight)), ())))
        first = ((0,), ((((1,), ()), ()), (((2,), ()), ())))
        paper = ((), ((last, (3,)), (first, ())))
        self.same(is_decomposition(game, paper), True)
        table = dict(self.judge(game, paper))
        wanted = {
            (0, (6, 6, 6)): 2, (0, (4, 6, 6)): 2, (0, (4, 4, 6)): 2, (3, (4, 4, 6)): 0, (4, (5, 5, 6)): 2,
            (4, (4, 5, 6)): 2, (4, (4, 4, 6)): 3, (4, (4, 4, 4)): 3, (4, (5, 6, 6)): 1, (4, (6, 6, 6)): 3,
            (1, (4, 6, 6)): 1, (5, (4, 5, 6)): 1, (5, (0, 4, 4)): 1,
        }
        for place, which in wanted.items():
            self.same(table[place], (which, None))

    def test_elder_registers_that_are_odd_are_left_alone(self):
        # As before, but the part that comes first in a play has the branching number 3, and the last one 2.
        rows = [[0, 1, 2, 3, 4, 5], [1], [2], [3], [4], [6], [6, 7, 8], [7], [8]]
        game = Game([1] * 9, [4, 0, 0, 0, 0, 5, 4, 0, 0], rows)
        one, two, three, four, seven, eight = [(((v,), ()), ()) for v in (1, 2, 3, 4, 7, 8)]
        last = ((6,), ((((), (seven,)), ()), (((), (eight,)), ())))
        first = ((0,), ((((), (one, two)), ()), (((), (three, four)), ())))
        paper = ((), ((last, (5,)), (first, ())))
        self.same(is_decomposition(game, paper), True)
        table = dict(self.judge(game, paper))
        wanted = {
            (0, (6, 6, 6)): 3, (0, (4, 4, 4)): 3, (5, (4, 4, 4)): 0, (6, (5, 5, 5)): 2, (6, (4, 5, 5)): 2,
            (6, (4, 4, 5)): 2, (7, (4, 4, 5)): 1, (7, (5, 5, 5)): 1, (7, (0, 5, 5)): 1,
        }
        for place, which in wanted.items():
            if place in table:
                self.same(table[place], (which, None))
        self.assertIn((6, (4, 4, 5)), table)

    def test_values_that_are_not_decompositions(self):
        papers = [((), ((EMPTY, ()),)), ((1,), ()), ((), ((((0,), ()), ()),)), ((0, 1), ((((1,), ()), ()),))]
        for game in (LINE, MIXED, TWO_LOOPS):
            for paper in papers:
                self.refuses(NotDecomposition(), register_plan, game, paper)
        self.refuses(NotDecomposition(), register_plan, MIXED, PAPER)
        self.refuses(NotDecomposition(), register_plan, LINE, ((), PAPER[1][::-1]))
