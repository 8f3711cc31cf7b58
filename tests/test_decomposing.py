"""Points 44 and 47."""

from holdsalltrees.climbing import climb
from holdsalltrees.complete import capacity
from holdsalltrees.decomposing import decompose_by
from holdsalltrees.decompositions import is_decomposition, tree_of, vertices_of
from holdsalltrees.drawntrees import DrawnTree
from holdsalltrees.embeddings import holds
from holdsalltrees.games import Game
from holdsalltrees.numbering import numbers
from holdsalltrees.trees import all_rows, leaf_count, tree_of_row
from holdsalltrees.universals import UniversalTree
from tests.searches import FOUR_LOOPS, TWO_LOOPS, drawn_game, trees_by_sets
from tests.support import Case, chain, perfect, random_tree, seeded, trees_to
from tests.test_games import fields


class Judge(Case):
    def judge(self, game, tree):
        before = fields(game)
        paper = self.ask(decompose_by, game, tree)
        self.same(is_decomposition(game, paper), True)
        self.same(holds(tree, tree_of(paper)), True)
        self.same(fields(game), before)
        return vertices_of(paper)


class DecomposeByTests(Judge):
    def test_the_example(self):
        self.example("""
>>> from holdsalltrees.games import Game
>>> from holdsalltrees.decompositions import vertices_of
>>> from holdsalltrees.decomposing import decompose_by
>>> game = Game([1, 1, 1], [0, 1, 0], [[0, 1], [2], [2]])
>>> [vertices_of(decompose_by(game, ((),))), decompose_by(game, ((), ()))]
[(1, 2), ((), ((((2,), ()), (1,)), (((0,), ()), ())))]
""")

    def greatest(self, game, tree, by_sets):
        """The union of all sets that have a decomposition whose tree is held, which must be one of them."""
        fit = [vertices for vertices, trees in by_sets.items() if any(holds(tree, small) for small in trees)]
        best = frozenset().union(*fit)
        self.assertIn(best, fit)
        return tuple(sorted(best))

    def test_against_all_decompositions_of_small_games(self):
        source = seeded("greatest")
        trees = trees_to(6)
        seen = set()
        for _ in range(70):
            game = drawn_game(source, source.randint(1, 5), source.randint(0, 6))
            by_sets = trees_by_sets(game)
            for tree in source.sample(trees, 8):
                found = self.judge(game, tree)
                self.same(found, self.greatest(game, tree, by_sets))
                seen.add((len(game), len(found)))
        self.assertGreater(len(seen), 15)

    def test_games_that_need_several_children(self):
        source = seeded("several children")
        different = 0
        for _ in range(40):
            owners = [1] * 5
            rows = [sorted({source.choice((v, source.randrange(5))), source.randrange(5)}) for v in range(5)]
            game = Game(owners, [source.choice((0, 1, 2, 2, 3)) for _ in range(5)], rows)
            by_sets = trees_by_sets(game)
            answers = set()
            for tree in ((), chain(2), ((), ()), ((), ((),)), (((),), ()), (((), ()),), perfect(2), (((), ()), ((),))):
                answers.add(self.judge(game, tree))
                self.same(self.judge(game, tree), self.greatest(game, tree, by_sets))
            different += len(answers) > 1
        self.assertGreater(different, 10)

    def test_two_and_four_loops(self):
        for tree in ((), chain(1), chain(3), (((), ()),)):
            self.same(self.judge(TWO_LOOPS, tree), ())
        for tree in (((), ()), perfect(1, 3), perfect(2), ((((),),), ())):
            self.same(self.judge(TWO_LOOPS, tree), (0, 1, 2, 3))
        half, whole = tuple(range(4, 9)), tuple(range(9))
        for tree, found in (
            (chain(2), ()), (perfect(1, 60), ()), (perfect(2), whole), ((((), ()),), half), ((((), ()), ()), half),
            ((((), ()), ((),)), half), (chain(2) * 4, ()), ((((), (), ()), ((), ())), whole),
            ((((), ()), ((),), ((), ())), whole), (perfect(3), whole), (perfect(5), whole),
        ):
            self.same(self.judge(FOUR_LOOPS, tree), found)

    def test_trees_of_any_shape(self):
        source = seeded("shapes")
        for _ in range(60):
            game = drawn_game(source, source.randint(1, 10), source.randint(0, 6))
            tree = random_tree(source, source.randint(1, 70), source.randint(1, 12))
            if leaf_count(tree) <= 60:
                found = self.judge(game, tree)
                # A tree that holds more finds more.
                more = self.judge(game, tree + (chain(2), ()))
                self.assertLessEqual(set(found), set(more))

    def test_the_game_without_vertices(self):
        for tree in ((), chain(12), perfect(5), ((),) * 60):
            self.same(self.ask(decompose_by, Game((), (), ()), tree), ((), ()))

    def test_one_vertex(self):
        for priority in range(7):
            for owner in (0, 1):
                game = Game([owner], [priority], [[0]])
                for tree in ((), chain(3), perfect(2)):
                    paper = self.ask(decompose_by, game, tree)
                    self.same(paper, ((0,), ()) if priority % 2 == 0 else ((), ()))

    def test_children_below_the_lowest_level_are_ignored(self):
        source = seeded("ignored")
        for _ in range(30):
            game = drawn_game(source, source.randint(1, 8), source.randint(0, 4))
            height = game.height
            deep, flat = perfect(height + 3), perfect(height)
            self.same(self.judge(game, deep), self.judge(game, flat))

    def test_10_vertices_a_top_of_6_and_60_leaves(self):
        source = seeded("largest")
        trees = [perfect(3, 3) + perfect(3, 3)[:2], ((((),) * 4,) * 5,) * 3, ((((),),),) * 60, (((),) * 60,),
                 ((((),) * 60,),), UniversalTree(10, 3).grown(), UniversalTree(10, 3, branching=2).grown()]
        for tree in trees:
            for most in (1, 2, 3, 10):
                for _ in range(3):
                    self.judge(drawn_game(source, 10, 6, most), tree)
        ring = Game([0, 1] * 5, [5, 4, 3, 2, 1, 0, 1, 2, 3, 6], [sorted({v, (v + 1) % 10}) for v in range(10)])
        rings = [ring] + [Game([owner] * 10, ring.priorities, ring.successors) for owner in (0, 1)]
        for game in rings:
            for tree in trees:
                self.judge(game, tree)


class FactTests(Judge):
    def test_trees_that_hold_all_trees_find_all_numbers(self):
        source = seeded("all numbers")
        for game in [TWO_LOOPS, FOUR_LOOPS] + [drawn_game(source, source.randint(1, 9), 6, 2) for _ in range(50)]:
            known = numbers(game)
            for k in (1, 2, 3):
                tree = UniversalTree(len(game), game.height, branching=k).grown()
                fit = tuple(v for v, (player, number) in enumerate(known) if player == 0 and number <= k)
                self.same(self.judge(game, tree), fit)

    def test_least_rankings_find_no_more(self):
        source = seeded("no more")
        fewer = 0
        for _ in range(60):
            game = drawn_game(source, source.randint(1, 8), source.randint(1, 5), 2)
            for _ in range(4):
                row = tuple(source.randint(1, game.height) for _ in range(source.randint(0, 7))) if game.height else ()
                tree = tree_of_row(row, game.height)
                ranks = climb(game, DrawnTree(tree, game.height))
                ranked = {v for v, rank in enumerate(ranks) if rank is not None}
                found = set(self.judge(game, tree))
                self.assertLessEqual(ranked, found)
                fewer += ranked != found
        self.assertGreater(fewer, 5)

    def test_complete_trees_find_everything(self):
        source = seeded("complete decompositions")
        for row in list(all_rows(5, 2)) + list(all_rows(8, 2))[::9]:
            tree = tree_of_row(row, 2)
            most = capacity(tree, 2)
            for _ in range(4):
                game = drawn_game(source, source.randint(1, most), 4)
                won = tuple(v for v, (player, _) in enumerate(numbers(game)) if player == 0)
                self.same(self.judge(game, tree), won)
