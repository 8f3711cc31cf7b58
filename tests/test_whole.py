"""Parts of the program that the document says agree, over the whole program and for drawn games."""

from holdsalltrees.arenas import Arena, arena_plan, arena_winners, objective_game
from holdsalltrees.automata import automaton_of
from holdsalltrees.automatonfaults import automaton_fault, separate_states
from holdsalltrees.benches import Bench, Trial, favoured, perform_all
from holdsalltrees.branchings import branching_number
from holdsalltrees.climbing import climb
from holdsalltrees.complete import least_complete, least_missing
from holdsalltrees.conversions import decomposition_of, ranking_of
from holdsalltrees.decomposing import decompose_by
from holdsalltrees.decompositions import is_decomposition, plan_of, tree_of, vertices_of
from holdsalltrees.deeds import after_deed, favours
from holdsalltrees.drawntrees import DrawnTree
from holdsalltrees.embeddings import holds
from holdsalltrees.explorations import explore
from holdsalltrees.faults import kept_vertices, watcher_fault
from holdsalltrees.games import Game
from holdsalltrees.gametexts import game_text, read_game
from holdsalltrees.matches import Match, replay
from holdsalltrees.numbering import decompose, numbers
from holdsalltrees.objectives import Objective
from holdsalltrees.objectivetexts import objective_text, read_objective
from holdsalltrees.planmaking import register_plan
from holdsalltrees.plays import duel, losing_play, winner_of
from holdsalltrees.programs import read_program
from holdsalltrees.rankings import is_ranking, plan_of_ranking
from holdsalltrees.registergames import fewest_registers, register_verdict
from holdsalltrees.registerplans import is_register_plan
from holdsalltrees.solving import winners
from holdsalltrees.splittrees import split_tree
from holdsalltrees.trees import leaf_count, tree_height, tree_of_row
from holdsalltrees.treetexts import read_tree, tree_text
from holdsalltrees.universals import UniversalTree
from holdsalltrees.verdicts import verdict
from holdsalltrees.watchers import watcher_of
from holdsalltrees.watchertrees import watcher_tree
from tests.deeds import after_by_words, drawn_deed
from tests.machines import drawn_tree, even_watcher, full_trees_to, watcher_fields
from tests.objectives import COLOURS, drawn_objective, objective_of, sets_of
from tests.programs import Told, drawn_program
from tests.searches import drawn_game
from tests.support import Case, random_tree, seeded
from tests.test_arenas import drawn_arena
from tests.test_games import fields


def won_by(game, player):
    return tuple(v for v, winner in enumerate(winners(game)) if winner == player)


def ranked(ranks):
    return tuple(v for v, rank in enumerate(ranks) if rank is not None)


class WholeTests(Case):
    def games(self, text, many, vertices, top):
        source = seeded(text)
        for _ in range(many):
            yield source, drawn_game(source, source.randint(1, vertices), source.randint(0, top))

    def test_winners_agree(self):
        for source, game in self.games("all winners", 60, 6, 6):
            found = winners(game)
            self.same(verdict(game).winners, found)
            self.same(tuple(player for player, _ in numbers(game)), found)
            self.same(Bench(game).verdict().winners, found)
            self.same(tuple(0 if number else 1 for number in fewest_registers(game)), found)
            self.same(tuple(1 - player for player in winners(game.turned())), found)
            self.same(tuple(0 if Match(game, v, player=0).promise() else 1 for v in range(len(game))), found)
            self.same(tuple(1 if Match(game, v, player=1).promise() else 0 for v in range(len(game))), found)
            plans = verdict(game).plans
            for v, player in enumerate(found):
                lead, ring = duel(game, plans[0], plans[1], v)
                self.same(winner_of(game, lead, ring), player)

    def test_rankings(self):
        # Point 40.
        for source, game in self.games("facts of rankings", 60, 5, 5):
            height = game.height + source.randint(0, 1)
            order = DrawnTree(drawn_tree(source, source.randint(1, 6), height), height)
            ranks = climb(game, order)
            self.same(is_ranking(game, order, ranks), True)
            self.assertLessEqual(set(ranked(ranks)), set(won_by(game, 0)))
            plan = plan_of_ranking(game, order, ranks)
            self.same(losing_play(game, 0, plan, ranked(ranks)), None)
            full = UniversalTree(len(game), height)
            self.same(ranked(climb(game, full)), won_by(game, 0))
            if height and least_missing(order.tree, len(game), height) is None:
                self.same(ranked(ranks), won_by(game, 0))

    def test_least_complete_trees_rank_all(self):
        orders = {}
        for leaves, depth in ((1, 1), (2, 1), (3, 1), (4, 1), (1, 2), (2, 2), (3, 2), (4, 2), (1, 3), (2, 3), (3, 3)):
            orders[leaves, depth] = DrawnTree(tree_of_row(least_complete(leaves, depth), depth), depth)
        for source, game in self.games("least complete trees", 80, 4, 6):
            place = (len(game), max(game.height, 1))
            if place in orders:
                self.same(ranked(climb(game, orders[place])), won_by(game, 0))

    def test_decompositions_by_universal_trees(self):
        # Point 47.
        for source, game in self.games("facts of decompositions", 50, 5, 6):
            table = numbers(game)
            for number in range(1, 5):
                wanted = tuple(v for v, (player, own) in enumerate(table) if player == 0 and own <= number)
                paper = decompose(game, number)
                self.same(vertices_of(paper), wanted)
                self.assertLessEqual(branching_number(tree_of(paper)), number)
                tree = UniversalTree(len(game), game.height, branching=number).grown()
                if leaf_count(tree) <= 60:
                    found = decompose_by(game, tree)
                    self.same(vertices_of(found), wanted)
                    self.same(holds(tree, tree_of(found)), True)

    def test_least_rankings_and_decompositions_by_the_same_tree(self):
        for source, game in self.games("rankings and decompositions", 80, 6, 6):
            tree = drawn_tree(source, source.randint(1, 6), game.height)
            ranks = climb(game, DrawnTree(tree, game.height))
            found = decompose_by(game, tree)
            self.assertLessEqual(set(ranked(ranks)), set(vertices_of(found)))
            paper = decomposition_of(game, tree, ranks)
            self.same(is_decomposition(game, paper), True)
            self.same(vertices_of(paper), ranked(ranks))
            other, again = ranking_of(game, found)
            self.same(ranked(again), vertices_of(found))
            self.same(is_ranking(game, DrawnTree(other, game.height), again), True)
            self.same(losing_play(game, 0, plan_of(game, found), vertices_of(found)), None)

    def test_registers(self):
        # Point 54.
        for source, game in self.games("facts of registers", 30, 5, 4):
            table = numbers(game)
            self.same(fewest_registers(game), tuple(own if player == 0 else None for player, own in table))
            for registers in (1, 2):
                won = register_verdict(game, registers).won
                self.same(won, tuple(v for v, (player, own) in enumerate(table) if player == 0 and own <= registers))
                paper = decompose(game, registers)
                plan = register_plan(game, paper)
                self.same(is_register_plan(game, branching_number(tree_of(paper)), won, plan), True)

    def test_watchers(self):
        # Points 60 and 62.
        for source, game in self.games("facts of watchers", 40, 5, 4):
            height = max(game.height, 1)
            for priorities in (2 * height, 2 * height + 1):
                if game.top < priorities:
                    watcher = watcher_of(UniversalTree(len(game), height).grown(), height, priorities)
                    self.same(kept_vertices(game, watcher), won_by(game, 0))
                    tree, _ = watcher_tree(watcher)
                    self.same(least_missing(tree, len(game), height), None)
                    again = watcher_of(tree, height, priorities)
                    self.same(kept_vertices(game, again), won_by(game, 0))
                    some = even_watcher(source, 6, priorities, 0.1)
                    self.assertLessEqual(set(kept_vertices(game, some)), set(won_by(game, 0)))

    def test_watchers_and_complete_trees(self):
        for height in (1, 2, 3):
            for tree in full_trees_to(4, height):
                for vertices in (1, 2, 3):
                    watcher = watcher_of(tree, height, 2 * height)
                    complete = least_missing(tree, vertices, height) is None
                    self.same(watcher_fault(watcher, vertices).kind == "none", complete)

    def test_deeds_that_favour(self):
        # What follows from point 79 for winners and numbers.
        for source, game in self.games("deeds that favour", 150, 6, 6):
            deed = drawn_deed(source, game, 6)
            if after_by_words(game, deed) is None:
                continue
            after = after_deed(game, deed)
            old, new = numbers(game), numbers(after)
            for player, good in enumerate(favours(game, deed)):
                for v, (winner, number) in enumerate(old):
                    if good and winner == player:
                        self.same(new[v][0], player)
                        self.assertLessEqual(new[v][1], number)

    def test_benches_that_only_favour(self):
        for source, game in self.games("benches that favour", 25, 5, 5):
            bench = Bench(game)
            with Trial(bench):
                answers = perform_all(bench, [drawn_deed(source, game, 5) for _ in range(4)])
                self.same(len(bench), answers.count(True))
                for player, good in enumerate(favoured(bench)):
                    if good:
                        self.assertLessEqual(set(won_by(game, player)), set(won_by(bench.game, player)))
                        order = UniversalTree(len(game), max(game.height, bench.game.height))
                        if player == 1 and len(bench.game) == len(game):
                            self.same(climb(bench.game, order, start=climb(game, order)), climb(bench.game, order))
            self.assertTrue(bench.game == game)

    def test_a_game_as_an_arena(self):
        letters = "abcd"
        parity = objective_of([some for some in sets_of(letters)[1:] if letters.index(max(some)) % 2 == 0], letters)
        for source, game in self.games("games as arenas", 50, 6, 3):
            arena = Arena(game.owners, "".join(letters[p] for p in game.priorities), game.successors)
            self.same(arena_winners(arena, parity), winners(game))
            other = Arena([1 - owner for owner in game.owners], arena.colours, game.successors)
            self.same(arena_winners(other, ~parity), tuple(1 - player for player in winners(game)))

    def test_arenas_and_their_products(self):
        source = seeded("arenas and products")
        for _ in range(40):
            arena = drawn_arena(source, source.randint(1, 5), source.choice(("ab", "bce", "abcd")))
            objective = drawn_objective(source, COLOURS)
            product = objective_game(arena, objective)
            if len(product.game) <= 12:
                found = winners(product.game)
                self.same(arena_winners(arena, objective), tuple(found[start] for start in product.starts))
                for player in (0, 1):
                    places = [state for state, _ in arena_plan(arena, objective, player)]
                    wanted = [state for v, state in enumerate(product.states) if found[v] == player == product.game.owners[v]]
                    self.same(places, wanted)

    def test_automata(self):
        source = seeded("automata over the whole")
        for _ in range(40):
            objective = drawn_objective(source, "abc")
            colours = source.choice(("abc", "ab", "bcd"))
            automaton = automaton_of(objective, colours)
            self.same(automaton_fault(automaton, objective), None)
            self.same(sorted(separate_states(automaton, objective)), list(range(len(automaton.rows))))
            self.same(automaton_fault(automaton, ~objective) is None, False)
            self.same(split_tree(objective, colours), split_tree(~objective, colours))

    def test_programs_as_arenas(self):
        source = seeded("programs over the whole")
        for _ in range(60):
            text = drawn_program(source, 2, 3)
            found = explore(read_program(text), limit=100)
            reading = Told(text)
            self.same(found.states[0], reading.first())
            if len(found.arena) <= 8 and len(set(found.arena.colours)) <= 4:
                objective = drawn_objective(source, COLOURS)
                self.same(len(arena_winners(found.arena, objective)), len(found.states))
                self.same(arena_winners(found.arena, Objective.always()), (0,) * len(found.states))

    def test_texts_there_and_back(self):
        source = seeded("texts over the whole")
        for _ in range(60):
            game = drawn_game(source, source.randint(1, 12), 8)
            self.same(read_game(game_text(game)) == game, True)
            tree = random_tree(source, source.randint(1, 40), 8)
            self.same(read_tree(tree_text(tree)), tree)
            objective = drawn_objective(source, source.choice((COLOURS, "abc", "e")))
            self.same(read_objective(objective_text(objective)) == objective, True)
            self.same(objective_text(read_objective(objective_text(objective))), objective_text(objective))

    def test_matches_and_plays(self):
        for source, game in self.games("matches and plays", 60, 8, 8):
            start, player = source.randrange(len(game)), source.randint(0, 1)
            match = Match(game, start, player=player)
            while replay(game, match.log) is None:
                if match.to_move == player:
                    match.answer()
                else:
                    match.go(source.choice(game.successors[match.vertex]))
            lead, ring = replay(game, match.log)
            if match.promise() and winners(game)[ring[0]] == player:
                self.same(winner_of(game, lead, ring), player)

    def test_equal_arguments_give_the_same_answers(self):
        for source, game in self.games("equal arguments", 20, 5, 4):
            twin = Game([*game.owners], [*game.priorities], [[*row] for row in game.successors])
            before = fields(game)
            for function in (winners, numbers, fewest_registers, game_text):
                self.same(self.ask(function, game), function(twin))
            one, two = verdict(game), verdict(twin)
            self.same((one.winners, one.rankings, one.plans), (two.winners, two.rankings, two.plans))
            for number in (1, 2):
                self.same(decompose(game, number), decompose(twin, number))
                self.same(vars(register_verdict(game, number)), vars(register_verdict(twin, number)))
            tree = drawn_tree(source, 4, game.height)
            self.same(decompose_by(game, tree), decompose_by(twin, tree))
            self.same(climb(game, DrawnTree(tree, game.height)), climb(twin, DrawnTree(tree, game.height)))
            watcher = even_watcher(source, 5, game.top + 1, 0.1)
            again = type(watcher)(watcher.priorities, [[*row] for row in watcher.rows], start=watcher.start)
            self.same(watcher_fields(watcher), watcher_fields(again))
            self.same(kept_vertices(game, watcher), kept_vertices(twin, again))
            self.same(watcher_tree(watcher), watcher_tree(again))
            self.same(vars(watcher_fault(watcher, 2)), vars(watcher_fault(again, 2)))
            self.same(fields(game), before)

    def test_equal_objectives_give_the_same_answers(self):
        source = seeded("equal objectives over the whole")
        for _ in range(30):
            one = drawn_objective(source, "abcd")
            two = read_objective(objective_text(one))
            arena = drawn_arena(source, 4, "abcd")
            twin = Arena([*arena.owners], arena.colours, [[*row] for row in arena.successors])
            self.same(split_tree(one, "abcd"), split_tree(two, "abcd"))
            self.same(arena_winners(arena, one), arena_winners(twin, two))
            for player in (0, 1):
                self.same(arena_plan(arena, one, player), arena_plan(twin, two, player))
            automaton = automaton_of(one, "abcd")
            other = drawn_objective(source, "abcd")
            self.same(automaton_fault(automaton, other), automaton_fault(automaton_of(two, "abcd"), ~~other))

    def test_the_height_of_universal_trees(self):
        for leaves, height in ((1, 0), (3, 2), (5, 3)):
            self.same(tree_height(UniversalTree(leaves, height).grown()), height)
