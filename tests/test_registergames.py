"""Points 50, 52 and 54."""

from holdsalltrees.attractors import attractor, is_trap
from holdsalltrees.errors import DeadEnd
from holdsalltrees.games import Game
from holdsalltrees.numbering import numbers
from holdsalltrees.registergames import RegisterVerdict, fewest_registers, register_verdict, register_wins
from holdsalltrees.registerplans import is_register_answer, is_register_plan
from holdsalltrees.solving import winners
from tests.searches import FOUR_LOOPS, TWO_LOOPS, drawn_game, options, rows_of_registers, won_positions
from tests.support import Case, has_list, seeded
from tests.test_games import fields
from tests.test_registerplans import LINE, LOOP, LOOP_PLAN, positions_under


def start(game, registers):
    return (game.ceiling,) * registers


def told(game, registers):
    found = register_verdict(game, registers)
    return (found.won, found.plan, found.answer)


def pairs_under(game, registers, vertices, answer):
    """The pairs that can occur under the answer."""
    table = dict(answer)
    found, seen = set(), set()
    work = [(v, start(game, registers)) for v in vertices]
    while work:
        v, row = work.pop()
        if (v, row) in seen:
            continue
        seen.add((v, row))
        for _, after, told_signal in options(game, v, row):
            if told_signal is not None:
                steps = game.successors[v]
                if game.owners[v] == 1:
                    found.add((v, after))
                    steps = [table[(v, after)]]
                work.extend((u, after) for u in steps)
    return found


class VerdictTests(Case):
    def judge(self, game, registers):
        before = fields(game)
        found = register_verdict(game, registers)
        self.assertIsInstance(found, RegisterVerdict)
        for item in (found.won, found.plan, found.answer):
            self.assertIsInstance(item, tuple)
            self.assertFalse(has_list(item))
        self.assertEqual(list(found.won), sorted(set(found.won)))
        others = tuple(v for v in range(len(game)) if v not in found.won)
        self.same(is_register_plan(game, registers, found.won, found.plan), True)
        self.same(is_register_answer(game, registers, others, found.answer), True)
        for entries in (found.plan, found.answer):
            places = [place for place, _ in entries]
            self.assertEqual(places, sorted(places))
        self.assertEqual({place for place, _ in found.plan},
                         set(positions_under(game, registers, found.won, found.plan)))
        self.assertEqual({place for place, _ in found.answer}, pairs_under(game, registers, others, found.answer))
        for (v, _), (_, step) in found.plan:
            self.same(step is None, game.owners[v] == 1)
        self.same(self.ask(told, game, registers), (found.won, found.plan, found.answer))
        self.same(fields(game), before)
        return found

    def test_the_example(self):
        self.example("""
>>> from holdsalltrees.games import Game
>>> from holdsalltrees.registergames import fewest_registers, register_verdict
>>> fewest_registers(Game([1, 1, 1, 0], [0, 1, 0, 3], [[0, 1], [2], [2], [3]]))
(2, 1, 1, None)
>>> register_verdict(Game([0], [2], [[0]]), 1).plan
(((0, (2,)), (1, 0)), ((0, (4,)), (1, 0)))
""")

    def test_a_few(self):
        self.same(told(LOOP, 1), ((0,), LOOP_PLAN, ()))
        self.same(told(Game([1], [1], [[0]]), 1), ((), (), (((0, (1,)), 0), ((0, (2,)), 0))))
        self.same([self.judge(LINE, registers).won for registers in (1, 2, 3)], [(1, 2), (0, 1, 2), (0, 1, 2)])
        self.same([self.judge(TWO_LOOPS, registers).won for registers in (1, 2, 3)], [(), (0, 1, 2, 3), (0, 1, 2, 3)])
        self.same([self.judge(FOUR_LOOPS, registers).won for registers in (1, 2, 3)],
                  [(), (4, 5, 6, 7, 8), tuple(range(9))])

    def test_the_game_without_vertices(self):
        game = Game((), (), ())
        for registers in (1, 2, 3):
            self.judge(game, registers)
            self.same(told(game, registers), ((), (), ()))
        self.same(self.ask(fewest_registers, game), ())

    def test_small_games_against_a_solver(self):
        source = seeded("register verdicts")
        for _ in range(60):
            game = drawn_game(source, source.randint(1, 5), source.randint(0, 6), 2)
            for registers in (1, 2, 3):
                won = won_positions(game, [(v, start(game, registers)) for v in range(len(game))])
                found = self.judge(game, registers)
                self.same(found.won, tuple(v for v in range(len(game)) if (v, start(game, registers)) in won))

    def test_the_greatest_bounds(self):
        source = seeded("largest register games")
        for vertices, top in ((10, 4), (6, 6), (10, 4), (6, 6), (9, 3)):
            for most in (2, 3, vertices):
                game = drawn_game(source, vertices, top, most)
                for registers in (1, 2, 3):
                    self.judge(game, registers)
        every = Game([1, 0] * 5, [0, 1, 2, 3, 4, 3, 2, 1, 0, 4], [list(range(10))] * 10)
        rings = [Game([1] * 6, [0, 1, 2, 3, 4, 6], [[v, (v + 1) % 6] if v < 5 else [0, 5] for v in range(6)]),
                 Game([0, 1] * 3, [5, 6, 3, 4, 1, 2], [sorted({(v + 1) % 6, (v + 2) % 6}) for v in range(6)])]
        for game in [every] + rings:
            for registers in (1, 2, 3):
                self.judge(game, registers)

    def test_games_with_greater_numbers(self):
        source = seeded("greater numbers")
        many = 0
        while many < 12:
            game = drawn_game(source, source.randint(4, 8), 4, 2)
            if any(number > 1 for _, number in numbers(game)):
                many += 1
                for registers in (1, 2):
                    self.judge(game, registers)


class RegisterWinsTests(Case):
    def judge(self, game, registers):
        rows = list(rows_of_registers(range(game.ceiling + 1), registers))
        positions = [(v, row) for v in range(len(game)) for row in rows]
        won = won_positions(game, positions)
        for v, row in positions:
            self.same(register_wins(game, v, row), (v, row) in won)
        return won

    def test_every_vertex_and_every_row_of_small_games(self):
        source = seeded("all rows")
        for vertices, top, registers, many in ((4, 6, 1, 40), (3, 4, 2, 16), (4, 2, 2, 12), (3, 2, 3, 6), (2, 4, 3, 3)):
            for _ in range(many):
                game = drawn_game(source, source.randint(1, vertices), source.randint(0, top), 2)
                self.judge(game, registers)

    def test_rows_of_two_loops(self):
        for registers in (1, 2):
            won = self.judge(TWO_LOOPS, registers)
            self.assertTrue(0 < len(won) or registers == 1)
        won = self.judge(LINE, 2)
        self.assertIn((0, (4, 4)), won)

    def test_lists_and_tuples(self):
        source = seeded("rows as lists")
        for _ in range(40):
            game = drawn_game(source, source.randint(1, 6), source.randint(0, 6), 2)
            registers = source.randint(1, 3)
            before = fields(game)
            numbers_there = [source.choice((game.ceiling, source.randint(0, game.ceiling))) for _ in range(registers)]
            row = tuple(sorted(numbers_there))
            vertex = source.randrange(len(game))
            self.same(self.ask(register_wins, game, vertex, row), (vertex, row) in won_positions(game, [(vertex, row)]))
            self.same(fields(game), before)

    def test_rows_of_large_games(self):
        source = seeded("rows of large games")
        for vertices, top in ((10, 4), (6, 6)) * 4:
            game = drawn_game(source, vertices, top, 3)
            for _ in range(8):
                row = tuple(sorted(source.randint(0, game.ceiling) for _ in range(3)))
                vertex = source.randrange(vertices)
                self.same(register_wins(game, vertex, row), (vertex, row) in won_positions(game, [(vertex, row)]))

    def test_odd_numbers_in_the_eldest_register(self):
        # With one register, an odd number there is never emptied before it is raised.
        loop = Game([0], [0], [[0]])
        self.same([register_wins(loop, 0, (number,)) for number in (0, 1, 2)], [True, False, True])
        self.same([register_wins(loop, 0, [0, number]) for number in (0, 1, 2)], [True, True, True])
        self.same([register_wins(loop, 0, [1, number]) for number in (1, 2)], [True, True])
        higher = Game([0], [2], [[0]])
        self.same([register_wins(higher, 0, (number,)) for number in range(5)], [True, True, True, False, True])


class FewestRegistersTests(Case):
    def test_against_a_solver(self):
        source = seeded("fewest")
        for _ in range(60):
            game = drawn_game(source, source.randint(1, 5), source.randint(0, 6), 2)
            before = fields(game)
            found = self.ask(fewest_registers, game)
            self.same(fields(game), before)
            for registers in (1, 2, 3):
                won = won_positions(game, [(v, start(game, registers)) for v in range(len(game))])
                for v, fewest in enumerate(found):
                    self.same((v, start(game, registers)) in won, fewest is not None and fewest <= registers)
            self.same([fewest is None for fewest in found], [player == 1 for player in winners(game)])

    def test_a_few(self):
        self.same(self.ask(fewest_registers, LINE), (2, 1, 1, None))
        self.same(self.ask(fewest_registers, FOUR_LOOPS), (3,) * 4 + (2,) * 5)
        self.same(self.ask(fewest_registers, TWO_LOOPS.turned()), (None,) * 4)

    def test_large_games(self):
        source = seeded("large fewest")
        for vertices, top in ((10, 4), (6, 6)) * 6:
            game = drawn_game(source, vertices, top)
            found = self.ask(fewest_registers, game)
            self.same(found, tuple(number if player == 0 else None for player, number in numbers(game)))
            for registers in (1, 2, 3):
                won = tuple(v for v in range(vertices) if found[v] is not None and found[v] <= registers)
                self.same(register_verdict(game, registers).won, won)


class FactTests(Case):
    def test_the_fewest_registers_are_the_number(self):
        source = seeded("number and registers")
        games = [drawn_game(source, source.randint(1, 7), 4, 2) for _ in range(60)] + [TWO_LOOPS, FOUR_LOOPS, LINE]
        for game in games:
            known = numbers(game)
            for registers in (1, 2, 3):
                won = tuple(v for v, (player, number) in enumerate(known) if player == 0 and number <= registers)
                self.same(register_verdict(game, registers).won, won)
                # The attractor to this set adds nothing.
                near = attractor(game, 0, won)
                self.same(tuple(v for v, moves in enumerate(near) if moves is not None), won)

    def test_the_ceiling_in_the_eldest_registers(self):
        source = seeded("eldest")
        for _ in range(25):
            game = drawn_game(source, source.randint(1, 4), source.randint(0, 4), 2)
            for registers in (1, 2):
                rows = list(rows_of_registers(range(game.ceiling + 1), registers))
                won = won_positions(game, [(v, row) for v in range(len(game)) for row in rows])
                for v, row in source.sample(sorted(won), min(12, len(won))):
                    for at in range(registers):
                        higher = row[:at] + (game.ceiling,) * (registers - at)
                        self.same(register_wins(game, v, higher), True)
                    self.same(register_wins(game, v, row + (game.ceiling,)), True)

    def test_the_steps_from_registers_to_a_decomposition(self):
        source = seeded("steps")
        many = 0
        while many < 25:
            game = drawn_game(source, source.randint(2, 7), source.randint(1, 4), 2)
            registers = source.randint(1, 2)
            won = register_verdict(game, registers).won
            try:
                part = game.restricted(won)
            except DeadEnd:
                self.fail("player 0 cannot stay in the set")
            if len(part) > 0:
                many += self.judge_steps(part, registers)

    def judge_steps(self, game, registers):
        """Player 0 wins from all vertices of the game. Returns whether there was anything to see."""
        self.same(register_verdict(game, registers).won, tuple(range(len(game))))
        height = game.height
        near = attractor(game, 0, [v for v in range(len(game)) if game.priorities[v] == 2 * height])
        rest = tuple(v for v in range(len(game)) if near[v] is None)
        seen = len(rest) > 0
        yielded = False
        while rest:
            part = game.restricted(rest)
            self.same(register_verdict(part, registers).won, tuple(range(len(part))))
            light = register_verdict(part, registers - 1).won if registers > 1 else ()
            self.same(is_trap(part, 1, light), True)
            goal = light
            if not light:
                # After one set of the third step, light vertices are enough.
                self.assertFalse(yielded)
                yielded = True
                goal = self.lower(part, registers)
                self.assertTrue(goal)
                self.same(is_trap(part, 1, goal), True)
                self.assertTrue(all(part.priorities[v] != 2 * height - 1 for v in goal))
            near = attractor(part, 0, goal)
            rest = tuple(rest[v] for v in range(len(part)) if near[v] is None)
        return seen

    def lower(self, game, registers):
        """The vertices from which player 0 wins with some row whose eldest number is less than the ceiling."""
        rows = list(rows_of_registers(range(game.ceiling), registers))
        won = won_positions(game, [(v, row) for v in range(len(game)) for row in rows])
        return tuple(v for v in range(len(game)) if any((v, row) in won for row in rows))
