"""Point 63."""

import itertools

from holdsalltrees.objectives import Objective
from tests.objectives import COLOURS, all_objectives, drawn_objective, objective_of, sets_of, table
from tests.support import ODD_THINGS, Case, seeded


class ObjectiveTests(Case):
    def test_the_example(self):
        self.example("""
>>> from holdsalltrees.objectives import Objective
>>> one = Objective.inf("a") & ~Objective.inf("b")
>>> [one.good("ac"), one.good("ab"), one.essential, one | Objective.inf("b") == Objective.inf("a") | Objective.inf("b")]
[True, False, 'ab', True]
""")

    def test_the_first_objectives(self):
        for colour in COLOURS:
            self.assertEqual(table(Objective.inf(colour)), tuple(some for some in sets_of(COLOURS) if colour in some))
            self.same(Objective.inf(colour).essential, colour)
        self.assertEqual(table(Objective.always()), tuple(sets_of(COLOURS)))
        self.assertEqual(table(Objective.never()), ())
        self.same((Objective.always().essential, Objective.never().essential), ("", ""))

    def test_good_gives_true_or_false(self):
        for some in sets_of(COLOURS):
            self.same(Objective.inf("c").good(some), "c" in some)
            self.same((Objective.always().good(some), Objective.never().good(some)), (True, False))

    def test_the_empty_colour_set(self):
        self.same(Objective.inf("a").good(""), False)
        self.same((~Objective.inf("a")).good(""), True)
        self.same(objective_of([""], "ab").good(""), True)
        self.same(objective_of([""], "ab").good("a"), False)
        self.same(objective_of([""], "ab").good("cde"), True)

    def test_operators_on_all_objectives_of_two_colours(self):
        objectives = list(all_objectives("bd"))
        self.assertEqual(len({table(one) for one in objectives}), 16)
        for one, two in itertools.product(objectives, repeat=2):
            self.assertIsInstance(one & two, Objective)
            self.assertEqual(set(table(one & two)), set(table(one)) & set(table(two)))
            self.assertEqual(set(table(one | two)), set(table(one)) | set(table(two)))
            self.same(one == two, table(one) == table(two))
            self.same(one != two, table(one) != table(two))
        for one in objectives:
            self.assertEqual(set(table(~one)), set(sets_of(COLOURS)) - set(table(one)))
            self.same(~~one == one, True)
            self.same(~one == one, False)

    def test_operators_leave_their_objectives_alone(self):
        one, two = Objective.inf("a"), Objective.inf("b")
        before = (table(one), table(two))
        for found in (one & two, one | two, ~one):
            self.assertNotEqual(table(found), before[0])
        one &= two
        self.assertEqual(table(Objective.inf("a")), before[0])
        self.assertEqual(table(one), table(Objective.inf("a") & two))
        self.assertEqual(table(two), before[1])

    def test_drawn_objectives_of_five_colours(self):
        source = seeded("objectives of five colours")
        for _ in range(60):
            one, two = drawn_objective(source, COLOURS), drawn_objective(source, COLOURS)
            self.assertEqual(set(table(one & two)), set(table(one)) & set(table(two)))
            self.assertEqual(set(table(one | two)), set(table(one)) | set(table(two)))
            self.assertEqual(set(table(~one)), set(sets_of(COLOURS)) - set(table(one)))
            self.same((one == two, one != two), (table(one) == table(two), table(one) != table(two)))
            self.same(objective_of(table(one), COLOURS) == one, True)
            self.same((~(one & two) == ~one | ~two, ~(one | two) == ~one & ~two), (True, True))

    def test_equal_objectives_that_were_made_differently(self):
        a, b = Objective.inf("a"), Objective.inf("b")
        self.same(a | ~a == Objective.always(), True)
        self.same(a & ~a == Objective.never(), True)
        self.same((a & b) | (a & ~b) == a, True)
        self.same(a & b == b & a, True)
        self.same(a == b, False)
        self.same(Objective.always() == Objective.never(), False)

    def test_values_of_other_kinds(self):
        for value in ODD_THINGS + [0, 1, 2 ** 32 - 1, "inf a", "always", Objective, ("a",), 4294967295]:
            for objective in (Objective.always(), Objective.never(), Objective.inf("a")):
                self.same(objective == value, False)
                self.same(value == objective, False)
                self.same(objective != value, True)
                self.same(value != objective, True)

    def judge_essential(self, objective):
        found = ""
        for colour in COLOURS:
            for some in sets_of(COLOURS):
                more = "".join(sorted(set(some) | {colour}))
                if objective.good(some) != objective.good(more):
                    found += colour
                    break
        self.same(objective.essential, found)

    def test_essential_colours(self):
        for colours in ("a", "e", "ab", "ce"):
            for objective in all_objectives(colours):
                self.judge_essential(objective)
                self.assertLessEqual(set(objective.essential), set(colours))
        source = seeded("essential colours")
        for colours in ("abcde", "bcd", "ace"):
            for _ in range(40):
                self.judge_essential(drawn_objective(source, colours))
        only_in_one_place = objective_of(["abcde"], COLOURS)
        self.same((only_in_one_place.essential, (~only_in_one_place).essential), (COLOURS, COLOURS))
        self.same((Objective.inf("e") & Objective.inf("b")).essential, "be")
        self.same((Objective.inf("e") | ~Objective.inf("e") & Objective.inf("b")).essential, "be")
        self.same((Objective.inf("e") & ~Objective.inf("e")).essential, "")
