"""Points 49, 50 and 51."""

from holdsalltrees.games import Game
from holdsalltrees.registergames import register_verdict
from holdsalltrees.registerplans import is_register_answer, is_register_plan
from tests.searches import FOUR_LOOPS, TWO_LOOPS, answer_faults, drawn_game, options, plan_faults, subsets
from tests.support import Case, seeded
from tests.test_games import fields

LOOP = Game([0], [2], [[0]])
LOOP_PLAN = (((0, (2,)), (1, 0)), ((0, (4,)), (1, 0)))
# Two loops of player 1 behind one another, and a loop of player 0 with an odd priority.
LINE = Game([1, 1, 1, 0], [0, 1, 0, 3], [[0, 1], [2], [2], [3]])
# Player 0 can choose between a good loop and a bad one.
CHOICE = Game([0, 0, 0], [0, 2, 1], [[1, 2], [1], [2]])


def positions_under(game, registers, vertices, plan):
    """The positions that can occur."""
    table = dict(plan)
    found = []
    work = [(v, (game.ceiling,) * registers) for v in vertices]
    while work:
        place = work.pop()
        if place not in found:
            found.append(place)
            which, step = table[place]
            after = options(game, *place)[which][1]
            work.extend((u, after) for u in (game.successors[place[0]] if step is None else (step,)))
    return found


def replaced(entries, index, said):
    return entries[:index] + ((entries[index][0], said),) + entries[index + 1:]


class Judge(Case):
    def judge_plan(self, game, registers, vertices, plan):
        before = fields(game)
        right = not plan_faults(game, registers, vertices, plan)
        self.same(self.ask(is_register_plan, game, registers, vertices, plan), right)
        self.same(fields(game), before)
        return right

    def judge_answer(self, game, registers, vertices, answer):
        before = fields(game)
        right = not answer_faults(game, registers, vertices, answer)
        self.same(self.ask(is_register_answer, game, registers, vertices, answer), right)
        self.same(fields(game), before)
        return right

    def lost(self, game, found):
        return tuple(v for v in range(len(game)) if v not in found.won)


def drawn(source, vertices=5):
    game = drawn_game(source, source.randint(1, vertices), source.randint(0, 6), 2)
    return game, source.randint(1, 3)


class PlanTests(Judge):
    def right(self, game, registers, vertices, plan):
        self.assertTrue(self.judge_plan(game, registers, vertices, plan))

    def wrong(self, game, registers, vertices, plan):
        self.assertFalse(self.judge_plan(game, registers, vertices, plan))

    def test_a_loop(self):
        self.right(LOOP, 1, (0,), LOOP_PLAN)
        self.right(LOOP, 1, (0,), LOOP_PLAN[::-1])
        self.wrong(LOOP, 1, (0,), LOOP_PLAN[:1])
        self.wrong(LOOP, 1, (0,), LOOP_PLAN[1:])
        # A plan that empties nothing for ever loses.
        self.wrong(LOOP, 1, (0,), (((0, (4,)), (0, 0)),))
        self.wrong(LOOP, 1, (0,), (((0, (4,)), (1, 0)), ((0, (2,)), (0, 0))))
        # Emptying now and then is enough, and so is the younger one of two registers.
        self.right(LOOP, 2, (0,), (((0, (4, 4)), (1, 0)), ((0, (2, 4)), (1, 0))))
        self.right(LOOP, 2, (0,), (((0, (4, 4)), (2, 0)), ((0, (2, 4)), (2, 0)), ((0, (2, 2)), (2, 0))))

    def test_odd_registers(self):
        odd = Game([0], [1], [[0]])
        # The first time register 1 holds the ceiling, and after that it holds 1.
        self.wrong(odd, 1, (0,), (((0, (2,)), (1, 0)), ((0, (1,)), (1, 0))))
        self.wrong(odd, 1, (0,), (((0, (2,)), (1, 0)), ((0, (1,)), (0, 0))))
        self.wrong(odd, 2, (0,), (((0, (2, 2)), (1, 0)), ((0, (1, 2)), (1, 0))))
        # An odd priority now and then: the younger register takes it.
        both = Game([0, 0], [1, 2], [[1], [0]])
        plan = (((0, (4,)), (0, 1)), ((1, (4,)), (1, 0)), ((0, (2,)), (0, 1)), ((1, (2,)), (1, 0)))
        self.right(both, 1, (0, 1), plan)
        # The odd number 1 is raised to 2 before the register is emptied once more.
        self.right(both, 1, (1,), (((1, (4,)), (0, 0)), ((0, (4,)), (1, 1)), ((1, (1,)), (0, 0)), ((0, (2,)), (1, 1))))
        self.wrong(both, 1, (0,), (((0, (4,)), (1, 1)), ((1, (1,)), (0, 0)), ((0, (2,)), (0, 1)), ((1, (2,)), (0, 0))))
        # The eldest register may not be emptied while it is odd, not even once.
        once = Game([0, 0], [1, 0], [[1], [1]])
        plan = (((0, (2,)), (0, 1)), ((1, (2,)), (1, 1)), ((1, (0,)), (1, 1)))
        self.right(once, 1, (0, 1), plan)
        self.wrong(once, 1, (0,), (((0, (2,)), (1, 1)), ((1, (1,)), (1, 1)), ((1, (0,)), (1, 1))))
        plan = (((0, (2, 2)), (1, 1)), ((1, (1, 2)), (2, 1)), ((1, (0, 1)), (1, 1)))
        self.right(once, 2, (0,), plan)
        self.wrong(once, 2, (0,), replaced(plan, 2, (2, 1)) + (((1, (0, 0)), (2, 1)),))
        # The younger one may, but not infinitely often.
        plan = (((0, (2, 2)), (1, 1)), ((1, (1, 2)), (1, 1)), ((1, (0, 2)), (1, 1)))
        self.right(once, 2, (0,), plan)
        self.wrong(Game([0, 0], [1, 0], [[1], [0]]), 2, (0,), (((0, (2, 2)), (1, 1)), ((1, (1, 2)), (1, 0)),
                                                                ((0, (0, 2)), (0, 1))))

    def test_the_empty_set(self):
        for game in (LOOP, LINE, Game((), (), ())):
            for registers in (1, 2, 3):
                self.right(game, registers, (), ())
        self.right(LOOP, 1, (), LOOP_PLAN)
        self.wrong(LOOP, 1, (), LOOP_PLAN + LOOP_PLAN[:1])
        self.wrong(LOOP, 1, (0,), ())

    def test_a_position_twice(self):
        for index in (0, 1):
            self.wrong(LOOP, 1, (0,), LOOP_PLAN + LOOP_PLAN[index:index + 1])
            self.wrong(LOOP, 1, (0,), LOOP_PLAN[index:index + 1] + LOOP_PLAN)
            self.wrong(LOOP, 1, (0,), LOOP_PLAN + ((LOOP_PLAN[index][0], (0, 0)),))
        # Also equal entries, and entries for positions that cannot occur.
        strange = ((7, (9,)), (5, None))
        self.right(LOOP, 1, (0,), LOOP_PLAN + (strange,))
        self.wrong(LOOP, 1, (0,), LOOP_PLAN + (strange, strange))
        self.wrong(LOOP, 1, (0,), (strange,) + LOOP_PLAN + (((7, (9,)), (6, 3)),))

    def test_entries_that_do_not_matter(self):
        strange = (((0, (0,)), (9, 9)), ((0, (1,)), (-1, None)), ((-1, (4,)), (0, 0)), ((1, (4,)), (1, 1)),
                   ((10 ** 30, (10 ** 30,)), (0, 0)), ((0, (10 ** 20,)), (10 ** 20, -10 ** 20)), ((0, (-5,)), (1, 0)))
        self.right(LOOP, 1, (0,), LOOP_PLAN + strange)
        self.right(LOOP, 1, (0,), strange[::-1] + LOOP_PLAN[::-1])
        self.right(LOOP, 1, (), strange)

    def test_wrong_choices(self):
        for which in (2, 3, -1, 10 ** 30, -10 ** 30):
            self.wrong(LOOP, 1, (0,), replaced(LOOP_PLAN, 0, (which, 0)))
            self.wrong(LOOP, 1, (0,), replaced(LOOP_PLAN, 1, (which, 0)))
        for step in (1, -1, 10 ** 30, None):
            self.wrong(LOOP, 1, (0,), replaced(LOOP_PLAN, 0, (1, step)))
            self.wrong(LOOP, 1, (0,), replaced(LOOP_PLAN, 1, (1, step)))
        forced = Game([1], [2], [[0]])
        plan = (((0, (2,)), (1, None)), ((0, (4,)), (1, None)))
        self.right(forced, 1, (0,), plan)
        for step in (0, 1, -1):
            self.wrong(forced, 1, (0,), replaced(plan, 0, (1, step)))
            self.wrong(forced, 1, (0,), replaced(plan, 1, (1, step)))

    def test_a_play_that_player_1_wins(self):
        plan = (((0, (4,)), (0, 1)), ((1, (4,)), (1, 1)), ((1, (2,)), (1, 1)), ((2, (4,)), (1, 2)), ((2, (1,)), (0, 2)))
        self.right(CHOICE, 1, (0, 1), plan)
        self.right(CHOICE, 1, (1,), plan)
        self.wrong(CHOICE, 1, (2,), plan)
        self.wrong(CHOICE, 1, (0, 1, 2), plan)
        self.wrong(CHOICE, 1, (0, 1), replaced(plan, 0, (0, 2)))
        # What player 1 may choose counts, too.
        forced = Game([1, 0, 0], CHOICE.priorities, CHOICE.successors)
        self.wrong(forced, 1, (0,), replaced(plan, 0, (0, None)))
        self.right(forced, 1, (1,), replaced(plan, 0, (0, None)))

    def test_verdicts_and_their_faults(self):
        source = seeded("plan faults")
        right = wrong = 0
        for _ in range(70):
            game, registers = drawn(source)
            found = register_verdict(game, registers)
            plan = found.plan
            self.right(game, registers, found.won, plan)
            self.right(game, registers, found.won[1:], plan[::-1])
            if not plan:
                continue
            for vertices in source.sample(list(subsets(range(len(game)))), 2):
                self.judge_plan(game, registers, vertices, plan)
            for _ in range(8):
                index = source.randrange(len(plan))
                place, (which, step) = plan[index]
                changes = [
                    plan[:index] + plan[index + 1:],
                    plan + (plan[index],),
                    replaced(plan, index, (source.randint(-1, registers + 1), step)),
                    replaced(plan, index, (which, source.choice((None, *range(len(game)), -1)))),
                    replaced(plan, index, (which, source.choice(game.successors[place[0]]))),
                    replaced(plan, index, (0, step)),
                    plan + (((source.randint(-1, 9), place[1]), (0, 0)),),
                ]
                for other in changes:
                    fine = self.judge_plan(game, registers, found.won, other)
                    right += fine
                    wrong += not fine
        self.assertGreater(right, 200)
        self.assertGreater(wrong, 800)

    def test_plans_drawn_at_random(self):
        source = seeded("drawn plans")
        right = 0
        for _ in range(150):
            game = drawn_game(source, source.randint(1, 3), source.randint(0, 3), 2)
            registers = source.randint(1, 2)
            plan = []
            work = [(v, (game.ceiling,) * registers) for v in range(len(game))]
            seen = set()
            while work:
                place = work.pop()
                if place in seen:
                    continue
                seen.add(place)
                which, after, _ = source.choice([item for item in options(game, *place) if item[2] is not None])
                steps = game.successors[place[0]]
                step = source.choice(steps) if game.owners[place[0]] == 0 else None
                plan.append((place, (which, step)))
                work.extend((u, after) for u in (steps if step is None else (step,)))
            for vertices in subsets(range(len(game))):
                right += self.judge_plan(game, registers, vertices, tuple(plan))
        self.assertGreater(right, 200)


class AnswerTests(Judge):
    def right(self, game, registers, vertices, answer):
        self.assertTrue(self.judge_answer(game, registers, vertices, answer))

    def wrong(self, game, registers, vertices, answer):
        self.assertFalse(self.judge_answer(game, registers, vertices, answer))

    def test_a_loop(self):
        odd = Game([1], [1], [[0]])
        answer = (((0, (1,)), 0), ((0, (2,)), 0))
        self.right(odd, 1, (0,), answer)
        self.right(odd, 1, (0,), answer[::-1])
        self.wrong(odd, 1, (0,), answer[:1])
        self.wrong(odd, 1, (0,), answer[1:])
        for step in (1, -1, None, 10 ** 30):
            self.wrong(odd, 1, (0,), replaced(answer, 0, step))
            self.wrong(odd, 1, (0,), replaced(answer, 1, step))
        self.wrong(Game([1], [2], [[0]]), 1, (0,), (((0, (2,)), 0), ((0, (4,)), 0)))
        # Nobody has to answer at the vertices of player 0.
        self.right(Game([0], [1], [[0]]), 1, (0,), ())
        self.wrong(Game([0], [2], [[0]]), 1, (0,), ())

    def test_two_loops_and_one_register(self):
        found = register_verdict(TWO_LOOPS, 1)
        self.same(found.won, ())
        self.right(TWO_LOOPS, 1, (0, 1, 2, 3), found.answer)
        for index in range(len(found.answer)):
            self.wrong(TWO_LOOPS, 1, (0, 1, 2, 3), found.answer[:index] + found.answer[index + 1:])
        # With two registers there is no answer, whatever it says.
        self.wrong(TWO_LOOPS, 2, (0,), found.answer)

    def test_the_empty_set(self):
        for game in (LOOP, LINE, Game((), (), ())):
            for registers in (1, 2, 3):
                self.right(game, registers, (), ())
        twice = (((0, (2,)), 0),) * 2
        self.right(LOOP, 1, (), twice[:1])
        self.wrong(LOOP, 1, (), twice)

    def test_a_pair_twice(self):
        odd = Game([1], [1], [[0]])
        answer = (((0, (1,)), 0), ((0, (2,)), 0))
        for index in (0, 1):
            self.wrong(odd, 1, (0,), answer + answer[index:index + 1])
            self.wrong(odd, 1, (0,), ((answer[index][0], None),) + answer)
        strange = ((5, (7,)), 3)
        self.right(odd, 1, (0,), answer + (strange,))
        self.wrong(odd, 1, (0,), answer + (strange, strange))
        self.wrong(odd, 1, (0,), (strange,) + answer + (((5, (7,)), None),))

    def test_entries_that_do_not_matter(self):
        odd = Game([1, 0], [1, 1], [[0], [1]])
        answer = (((0, (1,)), 0), ((0, (2,)), 0))
        strange = (((1, (2,)), 9), ((1, (1,)), None), ((-1, (1,)), 0), ((10 ** 30, (10 ** 30,)), -10 ** 30),
                   ((0, (0,)), 5), ((0, (10 ** 9,)), None))
        self.right(odd, 1, (0, 1), strange + answer)
        self.right(odd, 1, (0, 1), answer[::-1] + strange[::-1])
        self.right(odd, 1, (1,), strange)

    def test_a_play_that_player_0_wins(self):
        game = Game([1, 1, 1], [0, 2, 1], [[1, 2], [1], [2]])
        answer = tuple(((v, (number,)), v) for v, number in ((2, 1), (2, 4))) + (((0, (4,)), 2), ((0, (0,)), 2),)
        self.right(game, 1, (0, 2), answer)
        self.wrong(game, 1, (0, 2), replaced(answer, 2, 1))
        self.wrong(game, 1, (0, 1, 2), answer + tuple(((1, (number,)), 1) for number in (2, 4)))
        # Player 0 may choose at the own vertices.
        game = Game([0, 1, 1], [0, 2, 1], [[1, 2], [1], [2]])
        self.wrong(game, 1, (0,), answer[:2] + tuple(((1, (number,)), 1) for number in (2, 4)))
        self.right(game, 1, (2,), answer[:2])

    def test_verdicts_and_their_faults(self):
        source = seeded("answer faults")
        right = wrong = 0
        for _ in range(60):
            game, registers = drawn(source, 4)
            found = register_verdict(game, registers)
            answer, vertices = found.answer, self.lost(game, found)
            self.right(game, registers, vertices, answer)
            self.right(game, registers, vertices[1:], answer[::-1])
            if not answer:
                continue
            for others in source.sample(list(subsets(range(len(game)))), 2):
                self.judge_answer(game, registers, others, answer)
            for _ in range(5):
                index = source.randrange(len(answer))
                place, step = answer[index]
                changes = [
                    answer[:index] + answer[index + 1:],
                    answer + (answer[index],),
                    replaced(answer, index, source.choice((None, -1, len(game)))),
                    replaced(answer, index, source.choice(range(len(game)))),
                    replaced(answer, index, source.choice(game.successors[place[0]])),
                    answer + (((source.randint(-1, 9), place[1]), None),),
                ]
                for other in changes:
                    fine = self.judge_answer(game, registers, vertices, other)
                    right += fine
                    wrong += not fine
        self.assertGreater(right, 100)
        self.assertGreater(wrong, 200)


class LargeTests(Judge):
    def test_the_greatest_bounds(self):
        source = seeded("large register games")
        games = [drawn_game(source, 10, 4, most) for most in (2, 3, 10)] * 2
        games += [drawn_game(source, 6, 6, most) for most in (2, 3, 6)] * 2 + [FOUR_LOOPS, FOUR_LOOPS.turned()]
        for game in games:
            for registers in (1, 2, 3):
                found = register_verdict(game, registers)
                others = self.lost(game, found)
                self.same(self.ask(is_register_plan, game, registers, found.won, found.plan), True)
                self.same(self.ask(is_register_answer, game, registers, others, found.answer), True)
                if found.won:
                    self.same(is_register_plan(game, registers, found.won, found.plan[:-1]), False)
                    self.same(is_register_answer(game, registers, found.won, found.answer), False)
                if others:
                    self.same(is_register_plan(game, registers, others, found.plan), False)

    def test_10_vertices_and_a_top_of_6(self):
        # Plans that never empty a register, and answers that always take the first move.
        source = seeded("ten and six")
        for _ in range(4):
            game = drawn_game(source, 10, 6, 4)
            for registers in (1, 2, 3):
                start = (game.ceiling,) * registers
                plan, answer, seen = [], [], set()
                work = [(v, start) for v in range(10)]
                while work:
                    place = work.pop()
                    if place in seen:
                        continue
                    seen.add(place)
                    v, row = place
                    fine = [item for item in options(game, v, row) if item[2] is not None]
                    which, after, _ = fine[-1]
                    steps = game.successors[v]
                    plan.append((place, (which, steps[0] if game.owners[v] == 0 else None)))
                    if game.owners[v] == 1:
                        answer.extend(((v, item[1]), steps[0]) for item in fine)
                    work.extend((u, item[1]) for item in fine for u in steps)
                answer = list(dict(answer).items())
                vertices = tuple(range(10))
                self.judge_plan(game, registers, vertices, tuple(plan))
                self.assertIn(self.ask(is_register_answer, game, registers, vertices, tuple(answer)), (True, False))
