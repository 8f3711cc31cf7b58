"""Benches, on which games are edited, and trials, after which a bench is as it was before."""

from holdsalltrees.deeds import after_deed, favours
from holdsalltrees.errors import BadDeed, NothingToUndo
from holdsalltrees.numbering import numbers
from holdsalltrees.values import as_tuples
from holdsalltrees.verdicts import verdict

WORDS = ("game", "deeds", "len", "list", "favoured", "winners", "numbers")


class Bench:
    """A game that is edited, with the deeds that led to it."""

    def __init__(self, game):
        self.game = game
        self.deeds = ()
        # The game before each deed.
        self.past = ()
        # The number of deeds that may not be taken back.
        self.floor = 0

    def __len__(self):
        return len(self.deeds)

    def __iter__(self):
        return iter(self.deeds)

    def perform(self, deed):
        """Perform a deed."""
        after = after_deed(self.game, deed)
        self.past = self.past + (self.game,)
        self.deeds = self.deeds + (as_tuples(deed),)
        self.game = after

    def undo(self):
        """Take back the last deed."""
        if len(self.deeds) == self.floor:
            raise NothingToUndo()
        self.game = self.past[-1]
        self.deeds = self.deeds[:-1]
        self.past = self.past[:-1]

    def verdict(self):
        """Return the verdict on the game as it stands."""
        return verdict(self.game)

    def numbers(self):
        """Return the numbers of the game as it stands."""
        return numbers(self.game)


class Trial:
    """A block after which a bench has the game and the deeds that it had before."""

    def __init__(self, bench):
        self.bench = bench
        self.game = bench.game
        self.deeds = bench.deeds
        self.past = bench.past
        self.floor = bench.floor

    def __enter__(self):
        # One trial may be used for several blocks, each with its own beginning.
        self.game = self.bench.game
        self.deeds = self.bench.deeds
        self.past = self.bench.past
        self.floor = self.bench.floor
        self.bench.floor = len(self.bench.deeds)
        return self

    def __exit__(self, kind, value, trace):
        bench = self.bench
        bench.game = self.game
        bench.deeds = self.deeds
        bench.past = self.past
        bench.floor = self.floor


def favoured(bench):
    """Return whether all deeds of the bench favour player 0, and whether all of them favour player 1."""
    pairs = [favours(game, deed) for game, deed in zip(bench.past, bench.deeds)]
    return (all([pair[0] for pair in pairs]), all([pair[1] for pair in pairs]))


def perform_all(bench, script):
    """Perform a script, and return an answer for each of its items."""
    answers = []
    for item in as_tuples(script):
        if _is_trial(item):
            with Trial(bench) as trial:
                answers.append(perform_all(trial.bench, item[1]))
        else:
            answers.append(_is_done(bench, item))
    return tuple(answers)


def _is_trial(item):
    return isinstance(item, tuple) and len(item) == 2 and item[0] == "trial" and isinstance(item[1], tuple)


def _is_done(bench, item):
    try:
        _do(bench, item)
    except (BadDeed, NothingToUndo):
        return False
    return True


def _do(bench, item):
    if item == ("undo",):
        bench.undo()
    else:
        bench.perform(item)


def in_trial(trial, items):
    """Perform the items in a block of the trial, and return an answer for each of them."""
    answers = []
    with trial as inner:
        for item in as_tuples(items):
            if _is_trial(item):
                answers.append(in_trial(Trial(inner.bench), item[1]))
            elif _is_question(item):
                answers.append(_told(inner.bench, item[1]))
            else:
                _do(inner.bench, item)
                answers.append(None)
    return tuple(answers)


def _is_question(item):
    return isinstance(item, tuple) and len(item) == 2 and item[0] == "tell" and item[1] in WORDS


def _told(bench, word):
    if word == "game":
        return bench.game
    if word == "deeds":
        return bench.deeds
    if word == "len":
        return len(bench)
    if word == "list":
        return tuple(bench)
    if word == "favoured":
        return favoured(bench)
    if word == "winners":
        return bench.verdict().winners
    return bench.numbers()
