"""Points 70, 71 and 72."""

from holdsalltrees.arenas import Arena, ObjectiveGame, arena_plan, arena_winners, objective_game
from holdsalltrees.errors import BadVertex
from holdsalltrees.games import Game
from holdsalltrees.objectives import Objective
from holdsalltrees.solving import winners
from tests.objectives import COLOURS, all_objectives, drawn_objective, objective_of, rows_by_words, sets_of
from tests.searches import reached, split
from tests.support import ODD_THINGS, Case, has_list, seeded
from tests.test_games import fields as game_fields

ALTERNATING = objective_of([some for some in sets_of("abcd") if len(some) % 2 == 0], "abcd")


def fields(arena):
    return (arena.owners, arena.colours, arena.successors)


def made(owners, colours, successors):
    return fields(Arena(owners, colours, successors))


def product_fields(product):
    return (game_fields(product.game), product.states, product.starts)


def product_of(owners, colours, successors, objective):
    return product_fields(objective_game(Arena(owners, colours, successors), objective))


def winners_of(owners, colours, successors, objective):
    return arena_winners(Arena(owners, colours, successors), objective)


def plan_of(owners, colours, successors, objective, player):
    return arena_plan(Arena(owners, colours, successors), objective, player)


def drawn_arena(source, vertices, colours, most=3):
    share = source.choice((0.2, 0.5, 0.8))
    owners = [int(source.random() < share) for _ in range(vertices)]
    word = "".join(source.choice(colours) for _ in range(vertices))
    rows = [sorted(source.sample(range(vertices), source.randint(1, min(most, vertices)))) for _ in range(vertices)]
    return Arena(owners, word, rows)


class ArenaTests(Case):
    def test_fields(self):
        self.same(self.ask(made, (0, 1), "ab", ((1,), (0, 1))), ((0, 1), "ab", ((1,), (0, 1))))
        big = (tuple(k % 2 for k in range(100)), "abcde" * 20, (tuple(range(100)),) * 100)
        self.same(self.ask(made, *big), big)
        for vertices in (1, 2, 100):
            self.same(len(Arena([0] * vertices, "e" * vertices, [[0]] * vertices)), vertices)

    def test_the_arena_without_vertices(self):
        self.same(self.ask(made, (), "", ()), ((), "", ()))
        self.same(len(Arena([], "", [])), 0)

    def test_arguments_are_copied(self):
        owners, successors = [0, 1], [[1], [0, 1]]
        arena = Arena(owners, "ce", successors)
        owners[0] = 1
        successors[0].append(5)
        successors[1] = [0]
        self.same(fields(arena), ((0, 1), "ce", ((1,), (0, 1))))

    def bad(self, vertex, owners, colours, successors):
        for way in (list, tuple):
            with self.assertRaises(BadVertex) as caught:
                Arena(way(owners), colours, way([way(row) for row in successors]))
            self.same(caught.exception.vertex, vertex)

    def test_wrong_owners(self):
        for owner in ODD_THINGS + [2, -1, 10 ** 40]:
            for vertex in range(3):
                owners = [0, 1, 0]
                owners[vertex] = owner
                self.bad(vertex, owners, "abc", [[0], [1], [2]])

    def test_wrong_colours(self):
        for sign in "fgzABE01 \n(~":
            for vertex in range(3):
                word = "ace"[:vertex] + sign + "ace"[vertex + 1:]
                self.bad(vertex, [0, 1, 0], word, [[0], [1], [2]])

    def test_wrong_successors(self):
        wrong = [[], [3], [-1], [0, 0], [1, 0], [0, 2, 1], [0, 1, 2, 3], [0, 10 ** 40]]
        for row in wrong + [[item] for item in ODD_THINGS] + [[0, item, 2] for item in ODD_THINGS]:
            for vertex in range(3):
                rows = [[0], [1], [2]]
                rows[vertex] = row
                self.bad(vertex, [0, 1, 0], "abc", rows)

    def test_the_first_wrong_vertex_of_several(self):
        self.bad(1, [0, 2, 0], "abz", [[0], [1], []])
        self.bad(1, [0, 1, 2], "azb", [[0], [1], []])
        self.bad(1, [0, 1, True], "abz", [[0], [3], [2]])
        self.bad(0, [None, 1], "zz", [[], []])
        self.refuses(BadVertex(2), made, (0, 0, 0), "abC", ((0,), (0,), (0, 1)))


class ObjectiveGameTests(Case):
    def test_the_example(self):
        self.example("""
>>> from holdsalltrees.objectives import Objective
>>> from holdsalltrees.arenas import Arena, objective_game, arena_winners, arena_plan
>>> arena = Arena([0, 0], "ab", [[0, 1], [0, 1]])
>>> both = Objective.inf("a") & Objective.inf("b")
>>> [objective_game(arena, both).states, objective_game(arena, both).starts]
[((0, 0), (0, 1), (1, 0), (1, 1)), (0, 2)]
>>> arena_winners(arena, both)
(0, 0)
""")

    def judge(self, arena, objective):
        before = fields(arena)
        product = objective_game(arena, objective)
        self.assertIsInstance(product, ObjectiveGame)
        self.assertIsInstance(product.game, Game)
        self.assertFalse(has_list(product_fields(product)))
        self.same(self.ask(product_of, *before, objective), product_fields(product))
        self.same(fields(arena), before)
        owners, colours, successors = before
        letters = "".join(sorted(set(colours)))
        rows = rows_by_words(objective, letters)
        states = {(v, 0) for v in range(len(arena))}
        while True:
            more = set()
            for v, memory in states:
                after = rows[memory][letters.index(colours[v])][0]
                more |= {(u, after) for u in successors[v]}
            if more <= states:
                break
            states |= more
        states = sorted(states)
        self.same(product.states, tuple(states))
        self.same(product.starts, tuple(states.index((v, 0)) for v in range(len(arena))))
        for index, (v, memory) in enumerate(states):
            after, priority = rows[memory][letters.index(colours[v])]
            self.same(product.game.owners[index], owners[v])
            self.same(product.game.priorities[index], priority)
            self.same(product.game.successors[index], tuple(states.index((u, after)) for u in successors[v]))
        self.same(len(product.game), len(states))
        return product

    def test_drawn_arenas(self):
        source = seeded("products")
        for _ in range(150):
            colours = source.choice(("a", "ab", "ce", "abc", "bcde", "abcd"))
            arena = drawn_arena(source, source.randint(1, 6), colours)
            self.judge(arena, drawn_objective(source, source.choice((colours, COLOURS))))

    def test_all_objectives_of_two_colours(self):
        source = seeded("products with two colours")
        for objective in all_objectives("bd"):
            for colours in ("bd", "b", "abd"):
                self.judge(drawn_arena(source, 4, colours), objective)

    def test_colours_that_do_not_occur(self):
        # Only the colours of the arena count: one of them is left here.
        arena = Arena([0, 1], "cc", [[1], [0]])
        product = self.judge(arena, Objective.inf("a") & Objective.inf("c"))
        self.same((product.states, product.game.priorities), (((0, 0), (1, 0)), (1, 1)))
        product = self.judge(arena, Objective.inf("a") | Objective.inf("c"))
        self.same(product.game.priorities, (0, 0))

    def test_12_vertices_and_4_colours(self):
        source = seeded("large products")
        for most in (2, 4, 12):
            arena = drawn_arena(source, 12, "bcde", most)
            self.judge(arena, drawn_objective(source, COLOURS))
        full = Arena([0, 1] * 6, "abcd" * 3, [list(range(12))] * 12)
        product = self.judge(full, ALTERNATING)
        self.assertGreater(len(product.game), 200)


def step_of(rows, letters, arena, state):
    v, memory = state
    return rows[memory][letters.index(arena.colours[v])]


def graph_of(arena, objective):
    """The product as a graph for `split`, with its own automaton."""
    letters = "".join(sorted(set(arena.colours)))
    rows = rows_by_words(objective, letters)
    graph = {}
    work = [(v, 0) for v in range(len(arena))]
    while work:
        state = work.pop()
        if state not in graph:
            after, priority = step_of(rows, letters, arena, state)
            graph[state] = (arena.owners[state[0]], priority, [(u, after) for u in arena.successors[state[0]]])
            work.extend(graph[state][2])
    return graph


def won_states(graph):
    origins = {state: [] for state in graph}
    for state, (_, _, steps) in graph.items():
        for step in steps:
            origins[step].append(state)
    return split(graph, origins, set(graph))


def loses(arena, steps, state, objective, player):
    """Whether some play from the state on these steps is lost: by the colours that it can have for ever."""
    found = reached(steps, [state])
    for colours in sets_of("".join(sorted(set(arena.colours))))[1:]:
        if objective.good(colours) == (player == 0):
            continue
        inside = {x for x in found if arena.colours[x[0]] in colours}
        low = {x: [y for y in steps[x] if y in inside] for x in inside}
        for x in inside:
            ring = {y for y in reached(low, low[x]) if x in reached(low, low[y])}
            if x in ring and {arena.colours[y[0]] for y in ring} == set(colours):
                return True
    return False


class WinnerTests(Case):
    def judge(self, arena, objective):
        before = fields(arena)
        found = self.ask(winners_of, *before, objective)
        self.same(arena_winners(arena, objective), found)
        graph = graph_of(arena, objective)
        won = won_states(graph)
        self.same(found, tuple(0 if (v, 0) in won[0] else 1 for v in range(len(arena))))
        for player in (0, 1):
            self.judge_plan(arena, objective, player, graph, won[player])
        self.same(fields(arena), before)
        return found

    def judge_plan(self, arena, objective, player, graph, won):
        plan = self.ask(plan_of, *fields(arena), objective, player)
        self.same(arena_plan(arena, objective, player), plan)
        self.assertIsInstance(plan, tuple)
        self.assertFalse(has_list(plan))
        self.same([state for state, _ in plan], sorted(state for state in won if graph[state][0] == player))
        steps = {state: row for state, (_, _, row) in graph.items()}
        for state, successor in plan:
            self.assertIn(successor, arena.successors[state[0]])
            # All steps from one state lead to the same memory.
            steps[state] = [(successor, graph[state][2][0][1])]
        for state in won:
            self.assertFalse(loses(arena, steps, state, objective, player))

    def test_drawn_arenas(self):
        source = seeded("winners of arenas")
        answers = set()
        for _ in range(120):
            colours = source.choice(("a", "ab", "ce", "abc", "bcde", "abcd"))
            arena = drawn_arena(source, source.randint(1, 5), colours)
            answers |= set(self.judge(arena, drawn_objective(source, source.choice((colours, COLOURS)))))
        self.same(sorted(answers), [0, 1])

    def test_all_objectives_of_two_colours(self):
        source = seeded("winners with two colours")
        for objective in all_objectives("bd"):
            for colours in ("bd", "b", "abd"):
                self.judge(drawn_arena(source, 4, colours), objective)

    def test_a_game_as_an_arena(self):
        # Colours for the priorities 0 to 3: the greatest one that occurs infinitely often decides.
        parity = objective_of([some for some in sets_of("abcd")[1:] if "abcd".index(max(some)) % 2 == 0], "abcd")
        source = seeded("games as arenas")
        for _ in range(60):
            arena = drawn_arena(source, source.randint(1, 6), "abcd")
            game = Game(arena.owners, ["abcd".index(colour) for colour in arena.colours], arena.successors)
            self.same(arena_winners(arena, parity), winners(game))

    def test_who_needs_memory(self):
        arena = Arena([0, 0, 0], "cab", [[1, 2], [0], [0]])
        both = Objective.inf("a") & Objective.inf("b")
        self.same(self.judge(arena, both), (0, 0, 0))
        plan = dict(arena_plan(arena, both, 0))
        self.assertEqual({successor for (v, _), successor in plan.items() if v == 0}, {1, 2})
        self.same(self.judge(Arena([1, 0, 0], "cab", [[1, 2], [0], [0]]), both), (1, 1, 1))

    def test_the_arena_without_vertices(self):
        for objective in (Objective.always(), Objective.never(), Objective.inf("a")):
            self.same(self.ask(winners_of, (), "", (), objective), ())
            for player in (0, 1):
                self.same(self.ask(plan_of, (), "", (), objective, player), ())

    def test_constant_objectives(self):
        source = seeded("constant objectives")
        for _ in range(10):
            arena = drawn_arena(source, 5, "abcd")
            self.same(self.judge(arena, Objective.always()), (0,) * 5)
            self.same(self.judge(arena, Objective.never()), (1,) * 5)

    def test_8_vertices_and_4_colours(self):
        source = seeded("large arenas")
        for most in (2, 3, 8):
            self.judge(drawn_arena(source, 8, "abce", most), drawn_objective(source, COLOURS))
        for owners in ([0] * 8, [1] * 8, [0, 1] * 4, [0, 0, 1, 1] * 2):
            arena = Arena(owners, "abcdabcd", [sorted([(v + 1) % 8, (v + 3) % 8]) for v in range(8)])
            self.judge(arena, ALTERNATING)
            self.judge(arena, ~ALTERNATING)
