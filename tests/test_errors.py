"""The section on errors."""

from holdsalltrees import errors
from holdsalltrees.errors import BadStart, TreesError
from tests.support import Case

FIELDS = {
    "TooHigh": ["height"],
    "NotFull": ["leaf"],
    "BadRow": ["index"],
    "BadTree": ["index"],
    "TooLarge": ["size"],
    "TooManyLeaves": ["count"],
    "TooBranched": ["number"],
    "BadVertex": ["vertex"],
    "DeadEnd": ["vertex"],
    "NotAPlay": ["index"],
    "PlanGap": ["vertex"],
    "BadLine": ["line"],
    "TooLow": ["height"],
    "NotRanking": [],
    "NotDecomposition": [],
    "BadState": ["state"],
    "BadStart": ["start"],
    "TooFewPriorities": ["count"],
    "LetsLost": [],
    "BadObjective": ["index"],
    "WrongAutomaton": [],
    "BadProgram": ["line"],
    "TooManyStates": ["limit"],
    "BadDeed": [],
    "NothingToUndo": [],
    "NotYourMove": ["vertex"],
    "NoSuchMove": ["successor"],
}


class ErrorTests(Case):
    def test_the_classes_and_their_bases(self):
        self.assertEqual(len(FIELDS), 27)
        self.assertEqual(TreesError.__bases__, (ValueError,))
        for name in FIELDS:
            kind = getattr(errors, name)
            self.assertEqual(kind.__name__, name)
            self.assertEqual(kind.__module__, "holdsalltrees.errors")
            self.assertEqual(kind.__bases__, (TreesError,), name)

    def test_none_is_a_subclass_of_another_one(self):
        kinds = [getattr(errors, name) for name in FIELDS]
        for one in kinds:
            self.assertEqual([two for two in kinds if issubclass(one, two)], [one])

    def test_a_field_for_each_argument(self):
        for name, fields in FIELDS.items():
            for value in (0, 7, -3, 10 ** 30):
                error = getattr(errors, name)(*[value for _ in fields])
                self.same(vars(error), {field: value for field in fields})

    def test_errors_can_be_raised_and_caught(self):
        for name, fields in FIELDS.items():
            kind = getattr(errors, name)
            for caught in (kind, TreesError, ValueError):
                with self.assertRaises(caught) as told:
                    raise kind(*[5 for _ in fields])
                self.assertEqual([getattr(told.exception, field) for field in fields], [5] * len(fields))

    def test_the_wrong_number_of_arguments(self):
        for name, fields in FIELDS.items():
            if fields:
                self.assertRaises(TypeError, getattr(errors, name))
                self.assertRaises(TypeError, getattr(errors, name), 1, 2)

    def test_the_start_of_any_kind(self):
        for start in (True, None, "ab", "", 7, -1, 2.5, (), ((1,), "x"), b"s", {1: [2]}):
            self.same(BadStart(start).start, start)
        self.same(BadStart([]).start, ())
        self.same(BadStart([1, [2, (3, [4, []])], "[5]"]).start, (1, (2, (3, (4, ()))), "[5]"))
        self.same(BadStart((0, [None, True])).start, (0, (None, True)))

    def test_the_start_is_copied(self):
        start = [1, [2]]
        error = BadStart(start)
        start[1].append(3)
        start.append(4)
        self.same(error.start, (1, (2,)))
        start = [1, [2]]
        BadStart(start)
        self.same(start, [1, [2]])
