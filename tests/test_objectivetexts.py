"""Point 64."""

import itertools
import re

from holdsalltrees.errors import BadObjective
from holdsalltrees.objectives import Objective
from holdsalltrees.objectivetexts import objective_text, read_objective
from tests.objectives import COLOURS, all_objectives, drawn_objective, sets_of, table, text_by_words
from tests.support import Case, seeded

WORDS = ["inf", "not", "and", "or", "(", ")", "always", "never"] + list(COLOURS)


def is_objective(words):
    """Whether these words are an objective: what is one is replaced by O again and again."""
    if any(word not in WORDS for word in words):
        return False
    text = " " + " ".join(words) + " "
    text = re.sub(" (inf [a-e]|always|never)(?= )", " S", text)
    last = None
    while text != last:
        last = text
        text = re.sub(" not S ", " S ", text)
        text = re.sub(r" \( S ((and|or) S )*\) ", " S ", text)
    return re.fullmatch(" S ((and|or) S )*", text) is not None


def is_beginning(words):
    """Whether some objective begins with these words: if so, one of a few ways to go on leads to one."""
    if any(word not in WORDS for word in words):
        return False
    unclosed = [")"] * max(words.count("(") - words.count(")"), 0)
    return any(is_objective(list(words) + more + unclosed) for more in ([], ["a"], ["always"]))


def index_of_fault(text):
    """What read_objective has to say, or None."""
    words = text.split(" ")
    for index in range(len(words)):
        if not is_beginning(words[: index + 1]):
            return index
    return None if is_objective(words) else len(words)


def value(text, colours):
    """Whether the set is good: in Python the words bind as they do here."""
    return eval(re.sub("inf ([a-e])", r"('\1' in colours)", text.replace("always", "True").replace("never", "False")))


def told(text):
    return table(read_objective(text))


def drawn_words(source, depth):
    """The words of an objective with at most this many brackets open at the same time."""
    rows = []
    for _ in range(source.choice((1, 1, 1, 2, 3))):
        if rows:
            rows.append(source.choice(("and", "or")))
        rows += ["not"] * source.choice((0, 0, 0, 1, 2))
        kind = source.randint(0, 5) if depth else source.randint(0, 3)
        if kind == 0:
            rows.append(source.choice(("always", "never")))
        elif kind < 4:
            rows += ["inf", source.choice(COLOURS)]
        else:
            rows += ["("] + drawn_words(source, depth - 1) + [")"]
    return rows


def with_fault(source, text):
    """The text with one change, which may leave it right."""
    words = text.split(" ")
    place = source.randrange(len(words))
    kind = source.randint(0, 7)
    if kind == 0:
        del words[place]
    elif kind == 1:
        words.insert(place, source.choice(WORDS))
    elif kind == 2:
        words[place] = source.choice(WORDS + ["f", "A", "infa", "NOT", "Inf", "ab", "true", "0", "notinf", "()", "&"])
    elif kind == 3:
        words.insert(place, words[place])
    elif kind == 4:
        words.insert(place, "")
    elif kind == 5 and place + 1 < len(words):
        words[place] += words.pop(place + 1)
    elif kind == 6 and place + 1 < len(words):
        words[place] += source.choice("\n\t\r") + words.pop(place + 1)
    else:
        words = source.choice(([""] + words, words + [""], words + ["\n"], ["\n"] + words))
    return " ".join(words)


class ReadTests(Case):
    def test_the_example(self):
        self.example("""
>>> from holdsalltrees.objectivetexts import read_objective, objective_text
>>> objective_text(read_objective("inf a or not ( inf b and inf a )"))
'always'
>>> objective_text(read_objective("inf c and not inf a or inf a"))
'inf a and not inf c or not inf a and inf c or inf a and inf c'
>>> read_objective("inf a and")
raises BadObjective(3)
""")

    def judge(self, text):
        """Whether the text is right."""
        index = index_of_fault(text)
        if index is not None:
            self.refuses(BadObjective(index), read_objective, text)
            return False
        self.assertIsInstance(read_objective(text), Objective)
        self.assertEqual(self.ask(told, text), tuple(some for some in sets_of(COLOURS) if value(text, some)))
        return True

    def test_small_texts(self):
        for colour in COLOURS:
            self.same(read_objective("inf " + colour) == Objective.inf(colour), True)
        self.same(read_objective("always") == Objective.always(), True)
        self.same(read_objective("never") == Objective.never(), True)
        self.same(read_objective("not never") == Objective.always(), True)
        self.same(read_objective("( inf a )") == Objective.inf("a"), True)

    def test_what_binds_tightest(self):
        a, b, c = Objective.inf("a"), Objective.inf("b"), Objective.inf("c")
        self.same(read_objective("inf a or inf b and inf c") == a | (b & c), True)
        self.same(read_objective("inf a and inf b or inf c") == (a & b) | c, True)
        self.same(read_objective("( inf a or inf b ) and inf c") == (a | b) & c, True)
        self.same(read_objective("not inf a and inf b") == ~a & b, True)
        self.same(read_objective("not inf a or inf b") == ~a | b, True)
        self.same(read_objective("not ( inf a or inf b ) and inf c") == ~(a | b) & c, True)
        self.same(read_objective("not not ( not inf a and inf b )") == ~a & b, True)
        self.same(read_objective("inf a and not inf b and inf c or not inf c") == a & ~b & c | ~c, True)

    def test_all_texts_of_a_few_words(self):
        words = ["inf", "not", "and", "or", "(", ")", "never", "a", "x"]
        right = 0
        for many in (1, 2, 3, 4):
            for chosen in itertools.product(words, repeat=many):
                right += self.judge_quickly(" ".join(chosen))
        # never, inf a, and these with `not`, brackets, `and` and `or`.
        self.assertEqual(right, 1 + 2 + (2 + 1 + 2) + (3 + 2 + 8))

    def judge_quickly(self, text):
        index = index_of_fault(text)
        try:
            found = read_objective(text)
        except BadObjective as error:
            self.same(error.index, index)
            return False
        self.assertIsNone(index)
        self.assertEqual(table(found), tuple(some for some in sets_of(COLOURS) if value(text, some)))
        return True

    def test_the_judge_against_all_small_objectives(self):
        # All sequences of up to 7 words that the grammar gives; what begins one of them begins an objective.
        simple, joint, whole = {}, {}, {}
        for n in range(1, 8):
            simple[n] = {("never",)} if n == 1 else {("not",) + more for more in simple[n - 1]}
            if n == 2:
                simple[n].add(("inf", "a"))
            if n > 2:
                simple[n] |= {("(",) + more + (")",) for more in whole[n - 2]}
            joint[n] = set(simple[n])
            whole[n] = set()
            for k in range(1, n - 1):
                joint[n] |= {one + ("and",) + two for one in joint[k] for two in simple[n - 1 - k]}
            whole[n] |= joint[n]
            for k in range(1, n - 1):
                whole[n] |= {one + ("or",) + two for one in whole[k] for two in joint[n - 1 - k]}
        beginnings = {some[:k] for n in whole for some in whole[n] for k in range(n + 1)}
        words = ["inf", "not", "and", "or", "(", ")", "never", "a", "x"]
        for many in (1, 2, 3):
            for chosen in itertools.product(words, repeat=many):
                self.assertEqual(is_beginning(chosen), chosen in beginnings, chosen)
                self.assertEqual(is_objective(chosen), chosen in whole[many], chosen)

    def test_drawn_texts(self):
        source = seeded("texts of objectives")
        for _ in range(300):
            text = " ".join(drawn_words(source, source.randint(0, 3)))
            if len(text) <= 400:
                self.assertTrue(self.judge(text), text)

    def test_drawn_texts_with_one_fault_and_with_two(self):
        source = seeded("faults in objectives")
        right = 0
        for turn in range(1500):
            text = with_fault(source, " ".join(drawn_words(source, 2)))
            if turn % 2:
                text = with_fault(source, text)
            if len(text) <= 400:
                right += self.judge(text)
        self.assertTrue(50 < right < 700, right)

    def test_empty_words_and_white_space(self):
        for text in ("", " ", "  ", " inf a", "\ninf a", "\n", "\t", "  inf a"):
            self.refuses(BadObjective(0), read_objective, text)
        for text in ("inf  a", "inf ", "inf a\n", "inf \na", "inf \n a", "not  inf a", "inf a\nor inf b"):
            self.refuses(BadObjective(1), read_objective, text)
        for text in ("inf a ", "inf a \n", "inf a  or inf b", "( inf  a )"):
            self.refuses(BadObjective(2), read_objective, text)
        self.refuses(BadObjective(0), read_objective, "inf\na")
        self.refuses(BadObjective(5), read_objective, "inf a or inf b ")
        self.refuses(BadObjective(3), read_objective, "inf a or  inf b")

    def test_texts_that_end_too_early(self):
        for text in ("inf", "not", "(", "inf a and", "inf a or", "( inf a", "( ( always )", "not not", "always or not ("):
            self.refuses(BadObjective(len(text.split(" "))), read_objective, text)

    def test_words_in_the_wrong_place(self):
        for text in ("and", "or", ")", "a", "abcde", "f", "INF a", "inf_a", "true", "(inf a)", "not( inf a )", "0"):
            self.refuses(BadObjective(0), read_objective, text)
        for text in ("inf f", "inf inf", "inf ab", "inf ( a )", "inf always", "inf )", "( )", "( and", "not )", "not a",
                     "not and", "always never", "always a", "always inf a", "always )", "always (", "always not"):
            self.refuses(BadObjective(1), read_objective, text)
        for text in ("inf a b", "inf a inf b", "inf a )", "inf a ( inf b )", "inf a not inf b", "always or or",
                     "always and )", "( always never )", "( always ( never ) )"):
            self.refuses(BadObjective(2), read_objective, text)
        self.refuses(BadObjective(4), read_objective, "( inf a ) )")
        self.refuses(BadObjective(7), read_objective, "( always or ( never ) ) )")

    def test_ten_open_brackets(self):
        for many in range(11):
            text = "( " * many + "inf a" + " )" * many
            self.same(read_objective(text) == Objective.inf("a"), True)
            self.judge(text)
            if many:
                self.refuses(BadObjective(2 * many + 1), read_objective, text[:-2])
            self.refuses(BadObjective(2 * many + 2), read_objective, text + " )")
            self.refuses(BadObjective(many), read_objective, "( " * many + ")")
        deep = "inf a"
        for turn in range(10):
            deep = "( " + deep + (" or inf b )" if turn % 2 else " and not inf c )")
        self.assertTrue(self.judge(deep))

    def test_forty_words_not(self):
        for many in range(41):
            text = "not " * many + "inf b"
            self.same(read_objective(text) == (~Objective.inf("b") if many % 2 else Objective.inf("b")), True)
            self.refuses(BadObjective(many), read_objective, "not " * many + "b")
            self.refuses(BadObjective(many + 1), read_objective, "not " * many + "inf")
        self.judge("not " * 40 + "( " + "not " * 39 + "inf a ) and inf c")

    def test_texts_of_400_characters(self):
        text = " or ".join(["not inf a and inf b"] * 17)
        self.assertTrue(380 < len(text) <= 400, len(text))
        self.assertTrue(self.judge(text))
        self.assertFalse(self.judge(text[:-1]))
        self.assertFalse(self.judge("x" * 400))
        self.assertFalse(self.judge(" " * 400))
        self.assertFalse(self.judge("( " * 10 + "always and " * 30 + "never"))


class TextTests(Case):
    def judge(self, objective):
        text = self.ask(objective_text, objective)
        self.same(text, text_by_words(objective))
        self.same(read_objective(text) == objective, True)
        return text

    def test_all_objectives_of_one_and_two_colours(self):
        for colours in ("a", "d", "ab", "be"):
            texts = {self.judge(objective) for objective in all_objectives(colours)}
            self.assertEqual(len(texts), 4 if len(colours) == 1 else 16)

    def test_drawn_objectives_of_five_colours(self):
        source = seeded("texts of five colours")
        for colours in ("abcde", "abcde", "acde", "bce"):
            for _ in range(30):
                self.judge(drawn_objective(source, colours))

    def test_the_form(self):
        a, b, c = Objective.inf("a"), Objective.inf("b"), Objective.inf("c")
        self.same(objective_text(Objective.never()), "never")
        self.same(objective_text(~Objective.never()), "always")
        self.same(objective_text(a | ~a), "always")
        self.same(objective_text(b), "inf b")
        self.same(objective_text(~b), "not inf b")
        self.same(objective_text(~(c | a)), "not inf a and not inf c")
        self.same(objective_text(a & b & c | ~a & ~b & ~c | c & a & ~b | a & b & ~c | c & b & ~a | ~c & ~b & a),
                  "not inf a and not inf b and not inf c or inf a and not inf b and not inf c or "
                  "inf a and inf b and not inf c or inf a and not inf b and inf c or "
                  "not inf a and inf b and inf c or inf a and inf b and inf c")

    def test_equal_objectives_have_equal_texts(self):
        source = seeded("equal objectives")
        for _ in range(60):
            one = drawn_objective(source, "abcde")
            two = ~~one & Objective.always() | Objective.never()
            self.same(objective_text(one), objective_text(two))

    def test_the_longest_texts(self):
        every = sets_of(COLOURS)
        text = self.judge(read_objective("not ( inf a and inf b and inf c and inf d and inf e )"))
        self.same(text.count(" or "), len(every) - 2)
        self.judge(read_objective("not ( not inf a and not inf b and not inf c and not inf d and not inf e )"))
