"""Parts that are joined by `not`, `and`, `or` and brackets, read word by word.

What has been read is kept as a code, a sequence in which the words `not`, `and` and `or`
stand behind what they join. The parts themselves are numbered as they come, and the code
has their numbers.
"""

JOINING_WORDS = ("not", "(", "and", "or", ")")
BEHIND_A_PART = ("and", "or", ")")
# What has been read as far as a word is joined before the word joins on, if it binds at least as tight.
TIGHTER = {"and": ("not", "and"), "or": ("not", "and", "or"), ")": ("not", "and", "or")}


class Joining:
    """A reader of joined parts."""

    def __init__(self):
        self.code = []
        self.parts = 0
        # Whether a part has just ended; then it may be joined to another one.
        self.after_part = False
        self._waiting = []

    def take_part(self):
        """Read a part, and tell whether there can be one here."""
        if self.after_part:
            return False
        self.code.append(self.parts)
        self.parts += 1
        self.after_part = True
        return True

    def take_word(self, word):
        """Read one of the five words, and tell whether it can stand here."""
        if self.after_part != (word in BEHIND_A_PART):
            return False
        if word not in BEHIND_A_PART:
            self._waiting.append(word)
            return True
        while self._waiting and self._waiting[-1] in TIGHTER[word]:
            self.code.append(self._waiting.pop())
        if word != ")":
            self._waiting.append(word)
            self.after_part = False
            return True
        if not self._waiting:
            return False
        self._waiting.pop()
        return True

    def finish(self):
        """Read the end, and tell whether it can stand here."""
        while self._waiting and self._waiting[-1] != "(":
            self.code.append(self._waiting.pop())
        return self.after_part and not self._waiting


def joined(code, tables, full):
    """Return the table of joined parts from the tables of the parts.

    A table is a number with one bit for each case in which a part may hold; `full` has all of these bits.
    """
    found = []
    for item in code:
        if item == "not":
            found.append(full ^ found.pop())
        elif item == "and":
            found.append(found.pop() & found.pop())
        elif item == "or":
            found.append(found.pop() | found.pop())
        else:
            found.append(tables[item])
    return found[0]
