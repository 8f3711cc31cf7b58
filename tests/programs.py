"""Points 73 to 77 told once more: texts of programs to try, and what is right and wrong about them."""

import re

KEPT = ["cell", "even", "colour", "move", "when", "and", "or", "not", "true", "nothing"]


def is_name(word):
    return re.fullmatch("[a-z]{1,6}", word) is not None and word not in KEPT


def is_number(word):
    return re.fullmatch("0|[1-9][0-9]{0,2}", word) is not None


def letters_of(words, cells):
    """One letter for each word: x for what can stand in a term, and so on."""
    kinds = {"+": "+", "-": "+", "=": "=", "<": "<", ">": "<", "true": "t", "not": "n", "and": "&", "or": "&"}
    kinds.update({"(": "(", ")": ")", ",": ","})
    return "".join("x" if word in cells or is_number(word) else kinds.get(word, "?") for word in words)


def is_condition(words, cells):
    text = re.sub(r"x(\+x)*[=<]x(\+x)*", "t", letters_of(words, cells))
    last = None
    while text != last:
        last = text
        text = re.sub(r"nt|\(t(&t)*\)", "t", text)
    return re.fullmatch("t(&t)*", text) is not None


def are_changes(words, cells):
    if words == ["nothing"]:
        return True
    if re.fullmatch(r"x=x(\+x)*(,x=x(\+x)*)*", letters_of(words, cells)) is None:
        return False
    changed = changed_cells(words)
    return all(name in cells for name in changed) and len(set(changed)) == len(changed)


def changed_cells(words):
    """The words before `=`: there is no other `=` in changes."""
    return [word for word, after in zip(words, words[1:]) if after == "="]


def split_move(words, cells):
    """The condition and the changes of a move's line, by trying all words `do`."""
    found = []
    for place in range(3, len(words)):
        if words[place] == "do" and is_condition(words[3:place], cells) and are_changes(words[place + 1:], cells):
            found.append((words[3:place], words[place + 1:]))
    assert len(found) <= 1, words
    return found[0] if found else None


def line_of_fault(text):
    """What read_program has to say, or None: the judge of the tests."""
    lines = text.split("\n")
    rest = lines.pop()
    cells, moves, stage = [], [], 0
    for number, line in enumerate(lines):
        words = line.split(" ")
        kind = words[0]
        if kind == "cell" and stage == 0:
            fine = len(words) == 8 and is_name(words[1]) and words[1] not in cells
            fine = fine and [words[2], words[4], words[6]] == ["from", "to", "at"]
            fine = fine and all(is_number(words[place]) for place in (3, 5, 7))
            fine = fine and int(words[3]) <= int(words[7]) <= int(words[5])
            cells += words[1:2]
        elif kind == "even" and stage == 0 and cells:
            fine = words[1:2] == ["when"] and is_condition(words[2:], cells)
            stage = 1
        elif kind == "colour" and stage == 1 and not moves:
            fine = re.match("colour [a-e] when ", line) is not None and is_condition(words[3:], cells)
        elif kind == "move" and stage == 1:
            fine = len(words) > 3 and is_name(words[1]) and words[1] not in moves and words[2] == "when"
            fine = fine and split_move(words, cells) is not None
            moves += words[1:2]
        else:
            fine = False
        if not fine:
            return number
    return None if not rest and moves else len(lines)


class Told:
    """A program as its text says, with conditions and terms computed by Python itself."""

    def __init__(self, text):
        assert line_of_fault(text) is None
        self.cells, self.tints, self.moves = [], [], []
        for line in text.split("\n")[:-1]:
            words = line.split(" ")
            if words[0] == "cell":
                self.cells.append((words[1], int(words[3]), int(words[5]), int(words[7])))
            elif words[0] == "even":
                self.even = words[2:]
            elif words[0] == "colour":
                self.tints.append((words[1], words[3:]))
            else:
                condition, changes = split_move(words, [cell[0] for cell in self.cells])
                self.moves.append((words[1], condition, changes))

    def value(self, words, state):
        names = {cell[0]: value for cell, value in zip(self.cells, state)}
        told = []
        for word in words:
            word = {"=": "==", "true": "True"}.get(word, word)
            told.append(str(names[word]) if word in names else word)
        # A cell may have any value here, so that two numbers side by side would be wrong.
        return eval(" ".join(told))

    def owner(self, state):
        return 0 if self.value(self.even, state) else 1

    def colour(self, state):
        for colour, condition in self.tints:
            if self.value(condition, state):
                return colour
        return "a"

    def possible(self, state):
        found = []
        places = {cell[0]: place for place, cell in enumerate(self.cells)}
        for name, condition, changes in self.moves:
            if not self.value(condition, state):
                continue
            after = list(state)
            if changes != ["nothing"]:
                for change in " ".join(changes).split(" , "):
                    cell, _, *term = change.split(" ")
                    after[places[cell]] = self.value(term, state)
            if all(low <= value <= high for (_, low, high, _), value in zip(self.cells, after)):
                found.append((name, tuple(after)))
        return tuple(found)

    def first(self):
        return tuple(cell[3] for cell in self.cells)

    def explored(self):
        """All states, in the order in which they are found."""
        found = [self.first()]
        for state in found:
            for _, after in self.possible(state):
                if after not in found:
                    found.append(after)
        return found


# Texts to try


NAMES = ["x", "y", "at", "do", "from", "to", "zzzzzz", "up", "a"]


def drawn_term(source, cells):
    words = []
    for _ in range(source.choice((1, 1, 1, 2, 3))):
        if words:
            words.append(source.choice("+-"))
        words.append(source.choice(cells) if source.random() < 0.6 else str(source.choice((0, 1, 1, 2, 3, 10, 999))))
    return words


def drawn_condition(source, cells, depth):
    words = []
    for _ in range(source.choice((1, 1, 1, 2, 3))):
        if words:
            words.append(source.choice(("and", "or")))
        words += ["not"] * source.choice((0, 0, 0, 1, 2))
        kind = source.randint(0, 6)
        if kind == 0:
            words.append("true")
        elif kind < 5 or depth == 0:
            words += drawn_term(source, cells) + [source.choice("=<>")] + drawn_term(source, cells)
        else:
            words += ["("] + drawn_condition(source, cells, depth - 1) + [")"]
    return words


def drawn_changes(source, cells):
    words = []
    for cell in source.sample(cells, source.randint(0, len(cells))):
        if words:
            words.append(",")
        words += [cell, "="] + drawn_term(source, cells)
    return words or ["nothing"]


def drawn_program(source, cells=3, most=3):
    """The text of a program with at most so many cells, with values of at most `most`."""
    names = source.sample(NAMES, source.randint(1, cells))
    lines = []
    for name in names:
        low, first, high = sorted(source.randint(0, most) for _ in range(3))
        lines.append(["cell", name, "from", str(low), "to", str(high), "at", str(first)])
    lines.append(["even", "when"] + drawn_condition(source, names, 2))
    for _ in range(source.randint(0, 3)):
        lines.append(["colour", source.choice("abcde"), "when"] + drawn_condition(source, names, 1))
    for name in source.sample(NAMES, source.randint(1, 4)):
        condition = drawn_condition(source, names, 1) if source.random() < 0.6 else ["true"]
        lines.append(["move", name, "when"] + condition + ["do"] + drawn_changes(source, names))
    return "".join(" ".join(line) + "\n" for line in lines)


def with_fault(source, text):
    """The text with one change, which may leave it right."""
    lines = text.split("\n")[:-1]
    place = source.randrange(len(lines))
    kind = source.randint(0, 13)
    if kind == 0:
        del lines[place]
    elif kind == 1:
        lines.insert(place, source.choice(("", " ", "cell q from 0 to 2 at 1", "even when true", "colour b when true",
                                           "move q when true do nothing", "moves", "x = x + 1", lines[-1], lines[0])))
    elif kind == 2:
        lines.insert(place, lines[place])
    elif kind == 3:
        lines.insert(source.randrange(len(lines)), lines.pop(place))
    elif kind < 12:
        lines[place] = " ".join(with_word_fault(source, lines[place].split(" "), kind))
    else:
        return source.choice((text + "\n", text[:-1], text + " ", text + "x", "\n" + text, " " + text, text + "move"))
    return "".join(line + "\n" for line in lines)


def with_word_fault(source, words, kind):
    at = source.randrange(len(words))
    other = source.choice(KEPT + NAMES + ["do", "from", "=", "<", "+", "-", ",", "(", ")", "0", "7", "b", "f"])
    if kind == 4:
        del words[at]
    elif kind == 5:
        words.insert(at, other)
    elif kind == 6:
        words[at] = other
    elif kind == 7:
        words.insert(at, words[at])
    elif kind == 8:
        words.insert(at, "")
    elif kind == 9 and at + 1 < len(words):
        words[at] += source.choice(["", "\t", "\r", "\n"]) + words.pop(at + 1)
    elif kind == 10:
        numbers = [place for place, word in enumerate(words) if word.isdigit()]
        if numbers:
            words[source.choice(numbers)] = source.choice(("00", "01", "1000", "999", "-1", "+1", "1.0", "0", "x1"))
    else:
        words[at] = source.choice((words[at] + "s", words[at].upper(), "letters", "letter", "_", "a1", words[at][:-1]))
    return words
