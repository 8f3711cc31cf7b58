"""Points 80 and 81."""

from holdsalltrees.benches import Bench, Trial, favoured, in_trial, perform_all
from holdsalltrees.deeds import favours
from holdsalltrees.errors import BadDeed, NothingToUndo
from holdsalltrees.games import Game
from holdsalltrees.numbering import numbers
from holdsalltrees.verdicts import verdict
from tests.deeds import after_by_words, drawn_deed, favours_by_words
from tests.searches import drawn_game, winners_by_plans
from tests.support import Case, as_lists, as_mixed, has_list, seeded
from tests.test_games import fields

START = Game([0, 1], [1, 2], [[1], [0, 1]])
WORDS = ("game", "deeds", "len", "list", "favoured", "winners", "numbers")
NO_DEEDS = [0, 7, -3, 10 ** 30, None, "", "undo", "add", (), (0,), (None,), ((),), ("undo", 0), ("undo", ()), ("undo", "undo"),
            (("undo",),), ("trial",), ("trial", 0), ("trial", None), ("trial", "undo"), ("trial", (), ()), ("trial", ((0,),), 1),
            (0, "undo"), ("tell",), ("tell", "all"), ("tell", 0), ("tell", None), ("tell", ("len",)), ("tell", "len", "len"), ("tell", ""),
            "tell", ("add",), ("add", 0), ("add", "0", "1"), ("level", 0, "2"), (("add", 0, 0),), ("x", (("y", (0, None)), "z")),
            ("Undo",), ("game",), ("grow", 0, 0, "0"), ("grow", 0, 0, ("0",)), ("grow", 0, 0, 0)]


class Model:
    """A bench as point 80 tells it: games and deeds in lists, and the lengths at which blocks began."""

    def __init__(self, game):
        self.games = [game]
        self.deeds = []
        self.blocks = []

    def do(self, item):
        """True, or the error."""
        if item == ("undo",):
            if len(self.deeds) <= (self.blocks[-1] if self.blocks else 0):
                return NothingToUndo
            self.deeds.pop()
            self.games.pop()
            return True
        after = after_by_words(self.games[-1], item)
        if after is None:
            return BadDeed
        self.deeds.append(item)
        self.games.append(Game(*after))
        return True

    def begin(self):
        self.blocks.append(len(self.deeds))
        return list(self.games), list(self.deeds)

    def end(self, kept):
        self.blocks.pop()
        self.games, self.deeds = kept

    def script(self, items):
        answers = []
        for item in items:
            if is_trial(item):
                kept = self.begin()
                answers.append(self.script(item[1]))
                self.end(kept)
            else:
                answers.append(self.do(item) is True)
        return tuple(answers)

    def trial(self, items):
        """The answers, and the error that left the block or None."""
        kept = self.begin()
        answers, error = [], None
        for item in items:
            answer = None
            if is_trial(item):
                answer, error = self.trial(item[1])
            elif isinstance(item, tuple) and len(item) == 2 and item[0] == "tell" and item[1] in WORDS:
                answer = self.tell(item[1])
            else:
                done = self.do(item)
                error = None if done is True else done
            if error is not None:
                break
            answers.append(answer)
        self.end(kept)
        return tuple(answers), error

    def tell(self, word):
        game = self.games[-1]
        pairs = [favours_by_words(before, deed) for before, deed in zip(self.games, self.deeds)]
        if word == "game":
            return game
        if word in ("deeds", "list"):
            return tuple(self.deeds)
        if word == "len":
            return len(self.deeds)
        if word == "favoured":
            return (all(pair[0] for pair in pairs), all(pair[1] for pair in pairs))
        return verdict(game).winners if word == "winners" else numbers(game)


def is_trial(item):
    return isinstance(item, tuple) and len(item) == 2 and item[0] == "trial" and isinstance(item[1], tuple)


def plain(value):
    """Answers with the fields of games in their place."""
    if isinstance(value, Game):
        return fields(value)
    return tuple(plain(item) for item in value) if isinstance(value, tuple) else value


def drawn_items(source, game, many, depth, tells, junk):
    """Items of a script, with at most `many` of them together."""
    items = []
    while many > 0:
        kind = source.random()
        many -= 1
        if kind < 0.15 and depth:
            inner = drawn_items(source, game, source.randint(0, min(many, 12)), depth - 1, tells, junk)
            many -= count_items(inner)
            items.append(("trial", inner))
        elif kind < 0.3:
            items.append(("undo",))
        elif kind < 0.3 + junk:
            items.append(source.choice(NO_DEEDS))
        elif kind < 0.6 and tells:
            items.append(("tell", source.choice(WORDS)))
        else:
            items.append(drawn_deed(source, game))
    return tuple(items)


def count_items(items):
    return sum(1 + (count_items(item[1]) if is_trial(item) else 0) for item in items)


def depth_of(items):
    return 1 + max([depth_of(item[1]) for item in items if is_trial(item)], default=0)


def performed(game, deeds):
    bench = Bench(game)
    for deed in deeds:
        bench.perform(deed)
    return bench


class BenchCase(Case):
    def same_state(self, bench, model):
        self.same(fields(bench.game), fields(model.games[-1]))
        self.same(bench.deeds, tuple(model.deeds))
        self.same(len(bench), len(model.deeds))
        self.same(tuple(bench), tuple(model.deeds))
        self.same([deed for deed in bench], model.deeds)
        self.assertFalse(has_list(bench.deeds))


class BenchTests(BenchCase):
    def test_the_example(self):
        self.example("""
>>> from holdsalltrees.games import Game
>>> from holdsalltrees.benches import Bench, Trial, in_trial, perform_all
>>> bench = Bench(Game([0, 1], [1, 2], [[1], [0, 1]]))
>>> trial = Trial(bench)
>>> perform_all(bench, [("level", 0, 3), ("level", 2, 0)])
(True, False)
>>> in_trial(trial, [("cut", 1, 1), ("trial", [("level", 0, 5), ("tell", "list")]), ("undo",), ("tell", "len")])
(None, (None, (('level', 0, 3), ('cut', 1, 1), ('level', 0, 5))), None, 1)
>>> [bench.deeds, bench.game.successors]
[(('level', 0, 3),), ((1,), (0, 1))]
""")

    def test_a_new_bench(self):
        for game in (START, Game([], [], [])):
            bench = Bench(game)
            self.same_state(bench, Model(game))
            self.assertTrue(bench.game == game)
            self.same((bench.deeds, len(bench), list(bench)), ((), 0, []))
            self.same(favoured(bench), (True, True))
            with self.assertRaises(NothingToUndo):
                bench.undo()
            self.same_state(bench, Model(game))

    def test_deeds_and_undo(self):
        source = seeded("benches")
        for _ in range(60):
            game = drawn_game(source, source.randint(1, 6), 8)
            bench, model = Bench(game), Model(game)
            for _ in range(40):
                if source.random() < 0.3:
                    wanted = model.do(("undo",))
                    act, args = bench.undo, ()
                else:
                    deed = drawn_deed(source, model.games[-1])
                    wanted = model.do(deed)
                    act, args = bench.perform, (as_mixed(deed, source.random() < 0.5),)
                if wanted is True:
                    self.same(act(*args), None)
                else:
                    with self.assertRaises(wanted):
                        act(*args)
                self.same_state(bench, model)
            self.same(favoured(bench), model.tell("favoured"))

    def test_deeds_are_copied(self):
        bench = Bench(START)
        deed = ["grow", 0, 1, [0, 2]]
        bench.perform(deed)
        self.same(deed, ["grow", 0, 1, [0, 2]])
        deed[3].append(7)
        deed[1] = 1
        self.same(bench.deeds, (("grow", 0, 1, (0, 2)),))
        self.same(bench.game.successors[2], (0, 2))

    def test_verdicts_and_numbers(self):
        source = seeded("verdicts of benches")
        for _ in range(25):
            game = drawn_game(source, source.randint(1, 5), 6)
            bench, model = Bench(game), Model(game)
            for _ in range(4):
                deed = drawn_deed(source, model.games[-1], 6)
                if model.do(deed) is True:
                    bench.perform(deed)
                found = bench.verdict()
                wanted = verdict(model.games[-1])
                self.same((found.winners, found.rankings, found.plans), (wanted.winners, wanted.rankings, wanted.plans))
                self.same(found.winners, winners_by_plans(model.games[-1]))
                self.same(bench.numbers(), numbers(model.games[-1]))
                self.same_state(bench, model)

    def test_100_deeds_and_12_vertices(self):
        source = seeded("long benches")
        game = drawn_game(source, 12, 8)
        bench, model = Bench(game), Model(game)
        while len(bench) < 100:
            deed = drawn_deed(source, bench.game)
            if model.do(deed) is True:
                bench.perform(deed)
        self.same_state(bench, model)
        self.same(favoured(bench), model.tell("favoured"))
        self.same((bench.verdict().winners, bench.numbers()), (model.tell("winners"), model.tell("numbers")))
        for _ in range(100):
            bench.undo()
            model.do(("undo",))
            self.same_state(bench, model)
        self.assertRaises(NothingToUndo, bench.undo)
        self.assertTrue(bench.game == game)

    def test_favoured(self):
        bench = Bench(START)
        # Each deed favours one player in the game before it, though not in the last one.
        for deed, pair in ((("level", 0, 0), (True, False)), (("give", 0, 0), (True, False)), (("add", 0, 0), (True, False)),
                           (("give", 0, 1), (False, False))):
            bench.perform(deed)
            self.same(favoured(bench), pair)
        bench.undo()
        self.same(favoured(bench), (True, False))
        self.same(favours(bench.game, ("give", 0, 0)), (True, True))
        both = performed(START, [("grow", 1, 3, (2,)), ("level", 2, 3), ("give", 2, 1)])
        self.same(favoured(both), (True, True))
        with Trial(both):
            both.perform(("cut", 1, 0))
            self.same(favoured(both), (True, False))
        self.same(favoured(both), (True, True))

    def test_iterations_beside_each_other(self):
        deeds = [("level", 0, p) for p in range(4)]
        bench = performed(START, deeds)
        self.same([(one, two) for one in bench for two in bench], [(one, two) for one in deeds for two in deeds])
        self.assertIn(("level", 0, 2), list(bench))


class TrialTests(BenchCase):
    def test_a_trial(self):
        bench = performed(START, [("level", 0, 4)])
        before = bench.game
        trial = Trial(bench)
        self.assertTrue(trial.bench is bench)
        with trial as inner:
            self.assertTrue(inner is trial)
            self.assertTrue(inner.bench is bench)
            self.assertRaises(NothingToUndo, bench.undo)
            bench.perform(("cut", 1, 0))
            bench.perform(("level", 1, 7))
            self.same(bench.deeds, (("level", 0, 4), ("cut", 1, 0), ("level", 1, 7)))
            bench.undo()
            bench.undo()
            self.assertRaises(NothingToUndo, bench.undo)
            self.assertRaises(BadDeed, bench.perform, ("cut", 0, 1))
            self.same(bench.deeds, (("level", 0, 4),))
            bench.perform(("level", 1, 0))
        self.same(bench.deeds, (("level", 0, 4),))
        self.assertTrue(bench.game == before)
        bench.undo()
        self.same(bench.deeds, ())
        self.assertTrue(bench.game == START)

    def test_a_trial_that_is_used_again(self):
        bench = Bench(START)
        trial = Trial(bench)
        for priority in range(3):
            bench.perform(("level", 0, priority))
            before = (fields(bench.game), bench.deeds)
            with trial as inner:
                self.assertRaises(NothingToUndo, inner.bench.undo)
                inner.bench.perform(("level", 1, priority))
                self.same(len(bench), priority + 2)
            self.same((fields(bench.game), bench.deeds), before)
        self.same(bench.deeds, (("level", 0, 0), ("level", 0, 1), ("level", 0, 2)))
        for _ in range(3):
            bench.undo()
        self.assertRaises(NothingToUndo, bench.undo)
        with trial:
            self.assertRaises(NothingToUndo, bench.undo)
        self.same(bench.deeds, ())

    def test_a_block_that_an_error_leaves(self):
        bench = performed(START, [("level", 0, 4)])
        before = fields(bench.game)
        for error in (KeyError("x"), BadDeed(), NothingToUndo(), ZeroDivisionError()):
            trial = Trial(bench)
            with self.assertRaises(type(error)) as caught:
                with trial:
                    bench.perform(("cut", 1, 0))
                    raise error
            self.assertTrue(caught.exception is error)
            self.same((fields(bench.game), bench.deeds), (before, (("level", 0, 4),)))
        with self.assertRaises(BadDeed):
            with Trial(bench):
                bench.perform(("level", 0, 5))
                bench.perform(("level", 9, 5))
        self.same((fields(bench.game), bench.deeds), (before, (("level", 0, 4),)))
        bench.undo()
        self.same(len(bench), 0)

    def test_nested_blocks(self):
        bench = Bench(START)
        trials = [Trial(bench) for _ in range(5)]

        def nest(depth):
            if depth == 5:
                return
            bench.perform(("level", 0, depth))
            before = (fields(bench.game), bench.deeds)
            with trials[depth]:
                self.assertRaises(NothingToUndo, bench.undo)
                bench.perform(("level", 1, depth))
                bench.undo()
                nest(depth + 1)
                bench.perform(("give", 0, 1))
                self.same(len(bench), depth + 2 if depth == 4 else depth + 3)
            self.same((fields(bench.game), bench.deeds), before)

        nest(0)
        self.same(bench.deeds, (("level", 0, 0),))
        bench.undo()
        self.assertRaises(NothingToUndo, bench.undo)

    def test_an_inner_block_that_an_error_leaves(self):
        bench = performed(START, [("level", 0, 4)])
        with Trial(bench):
            bench.perform(("level", 0, 5))
            try:
                with Trial(bench):
                    bench.perform(("level", 0, 6))
                    bench.perform(("nonsense",))
            except BadDeed:
                pass
            self.same(bench.deeds, (("level", 0, 4), ("level", 0, 5)))
            bench.undo()
            self.assertRaises(NothingToUndo, bench.undo)
        self.same(bench.deeds, (("level", 0, 4),))


class ScriptTests(BenchCase):
    def judge(self, game, deeds, script):
        model = Model(game)
        for deed in deeds:
            self.assertTrue(model.do(deed))
        answers = model.script(script)
        for way in (lambda value: value, as_lists, lambda value: as_mixed(value, True), lambda value: as_mixed(value, False)):
            bench = performed(game, deeds)
            passed = way(script)
            found = perform_all(bench, passed)
            self.same(found, answers)
            self.same(passed, way(script))
            self.same_state(bench, model)
        return answers

    def test_small_scripts(self):
        self.same(self.judge(START, (), ()), ())
        self.same(self.judge(START, (), (("undo",),)), (False,))
        self.same(self.judge(START, (("level", 0, 3),), (("undo",), ("undo",))), (True, False))
        self.same(self.judge(START, (("level", 0, 3),), (("trial", (("undo",),)), ("undo",))), ((False,), True))
        self.same(self.judge(START, (), (("trial", ()), ("trial", (("trial", ()),)))), ((), ((),)))
        script = (("level", 0, 3), ("trial", (("cut", 1, 1), ("cut", 1, 0), ("undo",), ("undo",), ("cut", 1, 0))), ("cut", 1, 0), ("undo",))
        self.same(self.judge(START, (), script), (True, (True, False, True, False, True), True, True))

    def test_items_that_are_no_deeds(self):
        for item in NO_DEEDS:
            self.same(self.judge(START, (), (item,)), (False,))
            self.same(self.judge(START, (), (("level", 0, 3), item, ("trial", (item, ("undo",))), ("undo",))), (True, False, (False, False), True))
        self.same(self.judge(START, (), tuple(NO_DEEDS)), (False,) * len(NO_DEEDS))
        for word in WORDS:
            self.same(self.judge(START, (), (("tell", word),)), (False,))

    def test_drawn_scripts(self):
        source = seeded("scripts")
        for _ in range(100):
            game = drawn_game(source, source.randint(1, 5), 8)
            deeds = [deed for deed in [("level", 0, 1), ("give", 0, 1)] if source.random() < 0.5]
            script = drawn_items(source, game, source.randint(1, 30), 4, False, 0.1)
            self.judge(game, deeds, script)

    def test_100_items_and_5_blocks(self):
        source = seeded("long scripts")
        deep = 0
        for _ in range(12):
            game = drawn_game(source, 11, 8)
            script = drawn_items(source, game, 100, 5, False, 0.05)
            self.assertLessEqual(count_items(script), 100)
            deep = max(deep, depth_of(script))
            self.judge(game, [("level", 0, 1)], script)
        self.assertGreaterEqual(deep, 5)
        script = ()
        for depth in range(5):
            script = (("level", 0, depth), ("trial", script + (("undo",), ("undo",))), ("undo",))
        self.judge(START, (), script)
        self.judge(START, (), (("level", 0, 3),) * 100)

    def test_a_script_in_a_block(self):
        bench = performed(START, [("level", 0, 3)])
        with Trial(bench):
            self.same(perform_all(bench, [["undo"], ["level", 0, 5], ["undo"], ["undo"]]), (False, True, True, False))
        self.same(bench.deeds, (("level", 0, 3),))


class InTrialTests(BenchCase):
    def judge(self, game, deeds, items):
        model = Model(game)
        for deed in deeds:
            self.assertTrue(model.do(deed))
        answers, error = model.trial(items)
        for way in (lambda value: value, as_lists, lambda value: as_mixed(value, True), lambda value: as_mixed(value, False)):
            bench = performed(game, deeds)
            trial = Trial(bench)
            passed = way(items)
            # The same trial is used for a second block.
            for _ in range(2):
                if error is None:
                    found = in_trial(trial, passed)
                    self.assertFalse(has_list(found))
                    self.same(plain(found), plain(answers))
                else:
                    self.assertRaises(error, in_trial, trial, passed)
                self.same_state(bench, model)
            self.same(passed, way(items))
            for _ in deeds:
                bench.undo()
            self.assertRaises(NothingToUndo, bench.undo)
        return error or answers

    def test_small_blocks(self):
        self.same(self.judge(START, (), ()), ())
        self.same(self.judge(START, (), (("undo",),)), NothingToUndo)
        self.same(self.judge(START, (("level", 0, 3),), (("undo",),)), NothingToUndo)
        self.same(self.judge(START, (("level", 0, 3),), (("level", 0, 4), ("undo",), ("tell", "deeds"))), (None, None, (("level", 0, 3),)))
        self.same(self.judge(START, (), (("level", 0, 4), ("trial", (("undo",),)))), NothingToUndo)
        self.same(self.judge(START, (), (("trial", (("level", 0, 4), ("level", 9, 4))),)), BadDeed)
        self.same(self.judge(START, (), (("trial", ()), ("trial", (("trial", ()),)))), ((), ((),)))

    def test_each_of_the_seven_words(self):
        deeds = (("level", 0, 4), ("add", 0, 0))
        items = (("grow", 1, 5, (0, 2)),) + tuple(("tell", word) for word in WORDS)
        found = self.judge(START, deeds, items)
        all_deeds = deeds + (("grow", 1, 5, (0, 2)),)
        self.same(plain(found[1]), ((0, 1, 1), (4, 2, 5), ((0, 1), (0, 1), (0, 2))))
        self.same(found[2:6], (all_deeds, 3, all_deeds, (True, False)))
        self.same(found[6:], (verdict(found[1]).winners, numbers(found[1])))
        self.assertIsInstance(found[1], Game)
        nested = (("trial", tuple(("tell", word) for word in WORDS)),) + tuple(("tell", word) for word in WORDS)
        inner, *outer = self.judge(START, deeds, nested)
        self.same(plain(inner), plain(tuple(outer)))

    def test_items_that_are_no_deeds(self):
        for item in NO_DEEDS:
            self.same(self.judge(START, (), (item,)), BadDeed)
            self.same(self.judge(START, (("level", 0, 3),), (("level", 0, 4), ("tell", "len"), ("trial", (item, ("undo",))))), BadDeed)
        self.same(self.judge(START, (), (("undo",), 0)), NothingToUndo)
        self.same(self.judge(START, (), (0, ("undo",))), BadDeed)

    def test_drawn_blocks(self):
        source = seeded("blocks")
        errors = 0
        for _ in range(150):
            game = drawn_game(source, source.randint(1, 4), 5)
            deeds = [deed for deed in [("level", 0, 1), ("give", 0, 1)] if source.random() < 0.5]
            items = drawn_items(source, game, source.randint(1, 12), 4, True, source.choice((0, 0.05)))
            found = self.judge(game, deeds, items)
            errors += found in (BadDeed, NothingToUndo)
        self.assertTrue(30 < errors < 140, errors)

    def test_100_items_and_5_blocks(self):
        source = seeded("long blocks")
        game = drawn_game(source, 11, 8)
        items = (("grow", 0, 8, (0, 11)), ("tell", "winners"), ("tell", "numbers"))
        for depth in range(4):
            deeds = tuple(("level", source.randrange(11), source.randint(0, 8)) for _ in range(8))
            items = deeds + (("tell", "list"), ("undo",), ("trial", items), ("tell", "favoured"), ("tell", "numbers"), ("tell", "game"))
        self.same(depth_of(items), 5)
        more = (("level", 3, 8), ("tell", "len"))
        items += more * ((100 - count_items(items)) // 2)
        self.assertTrue(98 <= count_items(items) <= 100)
        self.assertIsInstance(self.judge(game, [("give", 0, 1)], items), tuple)

    def test_blocks_around_it(self):
        bench = performed(START, [("level", 0, 3)])
        trial = Trial(bench)
        with Trial(bench):
            bench.perform(("level", 0, 4))
            self.assertRaises(NothingToUndo, in_trial, trial, [["undo"]])
            self.same(in_trial(trial, [["tell", "len"], ["level", 0, 5], ["tell", "len"]]), (2, None, 3))
            bench.undo()
            self.assertRaises(NothingToUndo, bench.undo)
        self.same(bench.deeds, (("level", 0, 3),))
