"""The words of one line of a program, read from left to right."""

from holdsalltrees.connectives import JOINING_WORDS, Joining
from holdsalltrees.errors import BadProgram

LETTERS = "abcdefghijklmnopqrstuvwxyz"
DIGITS = "0123456789"
NO_NAMES = ("cell", "even", "colour", "move", "when", "and", "or", "not", "true", "nothing")


class LineReader:
    """A reader of one line, which raises an error as soon as a word does not fit."""

    def __init__(self, text, line, places):
        self.words = text.split(" ")
        self.line = line
        # The index of each cell, by its name.
        self.places = places
        self.at = 0

    def demand(self, fits):
        """Raise an error if something does not fit."""
        if not fits:
            raise BadProgram(self.line)

    def sees(self, words):
        """Tell whether the next word is one of these."""
        return self.at < len(self.words) and self.words[self.at] in words

    def take(self):
        """Read a word of any kind."""
        self.demand(self.at < len(self.words))
        self.at += 1
        return self.words[self.at - 1]

    def expect(self, word):
        """Read this word."""
        self.demand(self.take() == word)

    def expect_end(self):
        """Be at the end of the line."""
        self.demand(self.at == len(self.words))

    def take_name(self):
        """Read a name."""
        word = self.take()
        letters = all([sign in LETTERS for sign in word])
        self.demand(letters and 1 <= len(word) <= 6 and word not in NO_NAMES)
        return word

    def take_number(self):
        """Read a number."""
        word = self.take()
        digits = all([sign in DIGITS for sign in word])
        self.demand(digits and 1 <= len(word) <= 3 and (word == "0" or word[0] != "0"))
        return int(word)

    def take_term(self):
        """Read a term."""
        parts = [self._take_addend(1)]
        while self.sees(("+", "-")):
            sign = 1 if self.take() == "+" else -1
            parts.append(self._take_addend(sign))
        return tuple(parts)

    def _take_addend(self, sign):
        if self.sees(self.places):
            return (sign, self.places[self.take()], 0)
        return (sign, None, self.take_number())

    def take_condition(self):
        """Read a condition, as far as it goes."""
        joining = Joining()
        tests = []
        while not joining.after_part or self.sees(JOINING_WORDS):
            if self.sees(JOINING_WORDS):
                self.demand(joining.take_word(self.take()))
            else:
                tests.append(self._take_test())
                joining.take_part()
        self.demand(joining.finish())
        return (tuple(joining.code), tuple(tests))

    def _take_test(self):
        if self.sees(("true",)):
            return (self.take(), (), ())
        left = self.take_term()
        word = self.take()
        self.demand(word in ("=", "<", ">"))
        return (word, left, self.take_term())

    def take_changes(self):
        """Read changes: pairs of the index of a cell and a term."""
        if self.sees(("nothing",)):
            self.take()
            return ()
        changes = [self._take_change()]
        while self.sees((",",)):
            self.take()
            changes.append(self._take_change())
        cells = [place for place, term in changes]
        self.demand(len(set(cells)) == len(cells))
        return tuple(changes)

    def _take_change(self):
        self.demand(self.sees(self.places))
        place = self.places[self.take()]
        self.expect("=")
        return (place, self.take_term())
