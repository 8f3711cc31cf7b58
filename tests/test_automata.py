"""Points 66 and 67."""

import itertools

from holdsalltrees.automata import Automaton, automaton_of
from holdsalltrees.errors import BadStart, BadState
from holdsalltrees.objectives import Objective
from tests.objectives import (
    COLOURS, all_objectives, colour_set, drawn_objective, given, leaves_with_ways, objective_of, rows_by_words, sets_of,
    split_by_words,
)
from tests.support import ODD_THINGS, Case, seeded

GOOD = (((0, 1), (1, 2)), ((0, 2), (1, 1)), ((2, 0), (0, 20)))


def automaton_fields(automaton):
    return (automaton.colours, automaton.rows, automaton.start)


def made(colours, rows, start=0):
    return automaton_fields(Automaton(colours, rows, start=start))


def told(objective, colours):
    return automaton_fields(automaton_of(objective, colours))


class AutomatonTests(Case):
    def test_fields(self):
        self.same(self.ask(made, "ab", GOOD, 2), ("ab", GOOD, 2))
        self.same(self.ask(made, "e", (((0, 0),),)), ("e", (((0, 0),),), 0))
        rows = tuple(tuple(((state * 7 + k) % 30, (state + k) % 21) for k in range(5)) for state in range(30))
        self.same(self.ask(made, COLOURS, rows, 29), (COLOURS, rows, 29))
        self.same(Automaton("a", [[[0, 1]]]).start, 0)

    def test_arguments_are_copied(self):
        rows = [[[0, 1], [1, 2]], [[0, 2], [1, 1]]]
        automaton = Automaton("bd", rows, start=1)
        rows[0][0][1] = 7
        rows[1].append([0, 0])
        rows.append(rows[0])
        self.same(automaton_fields(automaton), ("bd", (((0, 1), (1, 2)), ((0, 2), (1, 1))), 1))

    def bad(self, error, colours, rows, start=0):
        for way in (list, tuple):
            with self.assertRaises(type(error)) as caught:
                Automaton(colours, way([way([way(item) for item in row]) for row in rows]), start=start)
            self.same(vars(caught.exception), vars(error))

    def test_one_wrong_item_of_each_kind(self):
        for state in range(3):
            for place in range(2):
                for wrong in ODD_THINGS + [3, -1, 10 ** 40, -10 ** 40]:
                    rows = [[list(item) for item in row] for row in GOOD]
                    rows[state][place][0] = wrong
                    self.bad(BadState(state), "ab", rows)
                for wrong in ODD_THINGS + [21, -1, 10 ** 40, -10 ** 40]:
                    rows = [[list(item) for item in row] for row in GOOD]
                    rows[state][place][1] = wrong
                    self.bad(BadState(state), "ab", rows)
        self.refuses(BadState(0), made, "a", ((((0,), 1),),))
        self.refuses(BadState(0), made, "a", (((0, (1, ())),),))
        self.bad(BadState(0), "a", [[[1, 0]]])
        self.same(made("a", [[[0, 20]]]), ("a", (((0, 20),),), 0))

    def test_rows_that_are_too_short_or_too_long(self):
        for many in (0, 1, 3, 5):
            for state in range(3):
                rows = [list(row) for row in GOOD]
                rows[state] = [(0, 0)] * many
                self.refuses(BadState(state), made, "ab", rows)
        self.refuses(BadState(0), made, "a", ((),))
        self.refuses(BadState(0), made, COLOURS, (((0, 0),) * 4,))
        self.refuses(BadState(0), made, COLOURS, (((0, 0),) * 6,))

    def test_the_first_wrong_row_of_several(self):
        self.refuses(BadState(1), made, "a", (((0, 0),), ((0, 21),), ((9, 0),), ()))
        self.refuses(BadState(2), made, "a", (((0, 0),), ((0, 20),), ((4, 0),), ()))
        self.refuses(BadState(3), made, "a", (((0, 0),), ((0, 20),), ((3, 0),), ()))

    def test_a_start_of_any_kind(self):
        for start in ODD_THINGS + [3, 4, -1, 10 ** 40, [1, [2, (3, [])]], "start", [True]]:
            self.bad(BadStart(start), "ab", GOOD, start)
        self.refuses(BadStart((0, ("[]",))), made, "ab", GOOD, (0, ("[]",)))
        self.bad(BadStart(1), "a", [[(0, 0)]], 1)

    def test_rows_come_before_the_start(self):
        for start in (True, 7, None, "x", (0,), -1):
            self.refuses(BadState(1), made, "a", (((0, 0),), ((2, 0),)), start)
            self.refuses(BadState(0), made, "a", ((), ((1, 0),)), start)
            self.refuses(BadStart(start), made, "a", (((0, 0),), ((1, 0),)), start)


class AutomatonOfTests(Case):
    def test_the_example(self):
        self.example("""
>>> from holdsalltrees.objectives import Objective
>>> from holdsalltrees.splittrees import split_tree
>>> from holdsalltrees.automata import automaton_of
>>> both = Objective.inf("a") & Objective.inf("b")
>>> split_tree(both, "ab")
('ab', (('a', ()), ('b', ())))
>>> automaton_of(both, "ab").rows
(((0, 1), (1, 2)), ((0, 2), (1, 1)))
""")

    def judge(self, objective, colours):
        found = self.ask(told, objective, colours)
        self.same(found, (colours, rows_by_words(objective, colours), 0))
        automaton = automaton_of(objective, colours)
        self.assertIsInstance(automaton, Automaton)
        return automaton

    def judge_right(self, automaton, objective, words):
        for lead, ring in words:
            even = given(automaton, lead, ring) % 2 == 0
            self.same(even, objective.good(colour_set(ring)))

    def test_every_objective_of_two_colours(self):
        for objective in all_objectives("ab"):
            for colours in ("a", "b", "ab", "abc", "e", "bcde"):
                automaton = self.judge(objective, colours)
                words = ["".join(word) for n in (1, 2, 3) for word in itertools.product(colours, repeat=n)]
                self.judge_right(automaton, objective, [(lead, ring) for lead in ["", *words[:6]] for ring in words])

    def test_drawn_objectives_of_three_and_four_colours(self):
        source = seeded("automata")
        for colours in ("abc", "bde", "abcd", "acde", "bcde"):
            for _ in range(30):
                objective = drawn_objective(source, colours)
                automaton = self.judge(objective, colours)
                words = []
                for _ in range(60):
                    lead, ring = ["".join(source.choice(colours) for _ in range(n)) for n in (source.randint(0, 4), source.randint(1, 8))]
                    words.append((lead, ring))
                self.judge_right(automaton, objective, words)
                self.judge(objective, source.choice([some for some in sets_of(COLOURS)[1:] if len(some) <= 4]))

    def test_one_leaf(self):
        for colours in ("a", "cd", "abde"):
            self.same(told(Objective.always(), colours), (colours, (((0, 0),) * len(colours),), 0))
            self.same(told(Objective.never(), colours), (colours, (((0, 1),) * len(colours),), 0))

    def test_the_greatest_split_trees(self):
        # In every node the good and the bad sets alternate by size: 24 leaves of depth 3.
        for parity in (0, 1):
            good = [some for some in sets_of("abcd") if len(some) % 2 == parity]
            objective = objective_of(good, "abcd")
            leaves = leaves_with_ways(split_by_words(objective, "abcd"))
            self.same((len(leaves), {len(way) for way in leaves}), (24, {4}))
            automaton = self.judge(objective, "abcd")
            self.same(len(automaton.rows), 24)
            self.same(max(priority for row in automaton.rows for _, priority in row), 4 if parity == 0 else 3)

    def test_leaves_of_different_depths(self):
        objective = objective_of(["ab", "c"], "abc")
        automaton = self.judge(objective, "abc")
        self.same(automaton.rows, (((0, 1), (1, 2), (2, 3)), ((0, 2), (1, 1), (2, 3)), ((0, 3), (0, 3), (2, 2))))
