"""Points 73 to 76."""

import itertools

from holdsalltrees.errors import BadProgram
from holdsalltrees.programs import Program, colour_of, owner_of, possible, read_program
from tests.programs import KEPT, Told, drawn_program, is_condition, line_of_fault, with_fault
from tests.support import Case, has_list, seeded

GOOD = """cell x from 0 to 2 at 1
cell do from 10 to 300 at 20
even when x = 1 or not do < 5
colour b when x > 1 and do = x + 19
colour e when true
move up when true do x = x + 1 , do = do - x
move do when do = do do do = do + 1
move x when ( x < 2 ) do nothing
"""
HEAD = "cell x from 0 to 9 at 3\ncell y from 0 to 99 at 50\neven when true\n"


def told(text):
    program = read_program(text)
    return (program.cells, program.moves)


class ReadTests(Case):
    def test_the_example(self):
        self.example(r"""
>>> from holdsalltrees.programs import read_program, possible, owner_of, colour_of
>>> text = "cell x from 0 to 2 at 1\neven when x = 1\ncolour b when x > 1\nmove up when true do x = x + 1\n"
>>> program = read_program(text + "move back when not x < 1 do x = x - 1\n")
>>> [program.cells, program.moves, possible(program, (1,)), possible(program, (2,))]
[(('x', 0, 2, 1),), ('up', 'back'), (('up', (2,)), ('back', (0,))), (('back', (1,)),)]
>>> [owner_of(program, (1,)), owner_of(program, (2,)), colour_of(program, (2,)), colour_of(program, (0,))]
[0, 1, 'b', 'a']
>>> read_program("cell x from 0 to 2 at 3\n")
raises BadProgram(0)
""")

    def judge(self, text):
        """Whether the text is right."""
        line = line_of_fault(text)
        if line is not None:
            self.refuses(BadProgram(line), read_program, text)
            return False
        program = read_program(text)
        self.assertIsInstance(program, Program)
        found = self.ask(told, text)
        reading = Told(text)
        self.same(found, (tuple(reading.cells), tuple(move[0] for move in reading.moves)))
        return True

    def bad(self, line, text):
        self.same(line_of_fault(text), line)
        self.refuses(BadProgram(line), read_program, text)

    def good(self, text):
        self.assertTrue(self.judge(text), text)

    def test_a_right_text(self):
        self.good(GOOD)
        self.same(told(GOOD), ((("x", 0, 2, 1), ("do", 10, 300, 20)), ("up", "do", "x")))
        self.good("cell a from 0 to 0 at 0\neven when true\nmove a when true do nothing\n")

    def test_drawn_texts(self):
        source = seeded("texts of programs")
        for _ in range(150):
            self.good(drawn_program(source))

    def test_drawn_texts_with_one_fault_and_with_two(self):
        source = seeded("faults in programs")
        right = 0
        lines = set()
        for turn in range(2500):
            text = with_fault(source, GOOD if turn % 5 == 0 else drawn_program(source))
            if turn % 2:
                text = with_fault(source, text) if text else text
            right += self.judge(text)
            lines.add(line_of_fault(text))
        self.assertTrue(100 < right < 1200, right)
        self.assertTrue(set(range(8)) <= lines)

    def test_each_word_of_a_right_text_left_out_doubled_or_changed(self):
        lines = GOOD.split("\n")[:-1]
        for number, line in enumerate(lines):
            words = line.split(" ")
            for place in range(len(words)):
                changes = [words[:place] + words[place + 1:], words[:place + 1] + words[place:]]
                changes += [words[:place] + [word] + words[place + 1:] for word in ("", "x", "0", "not", "=", "z", "do")]
                for change in changes:
                    new = lines[:number] + [" ".join(change)] + lines[number + 1:]
                    self.judge("\n".join(new) + "\n")

    def test_each_line_left_out_doubled_or_moved(self):
        lines = GOOD.split("\n")[:-1]
        for number, line in enumerate(lines):
            rest = lines[:number] + lines[number + 1:]
            self.judge("\n".join(rest) + "\n")
            twice = "\n".join(lines[:number] + [line] + lines[number:]) + "\n"
            self.same(line_of_fault(twice), None if line.startswith("colour") else number + 1)
            self.judge(twice)
            for place in range(len(lines)):
                self.judge("\n".join(rest[:place] + [line] + rest[place:]) + "\n")

    def test_the_empty_text(self):
        self.bad(0, "")
        self.bad(0, "\n")
        self.bad(0, " ")
        self.bad(0, " \n")

    def test_texts_that_end_too_early(self):
        lines = GOOD.split("\n")[:-1]
        for many in range(len(lines) + 1):
            text = "".join(line + "\n" for line in lines[:many])
            if many < 6:
                self.bad(many, text)
            else:
                self.good(text)

    def test_characters_after_the_last_newline(self):
        self.bad(8, GOOD + "x")
        self.bad(8, GOOD + " ")
        self.bad(8, GOOD + "move z when true do nothing")
        self.bad(7, GOOD[:-1])
        self.bad(8, GOOD + "\n")
        self.bad(8, GOOD + "\nx")
        self.bad(0, "cell x from 0 to 2 at 1")
        self.bad(2, HEAD[:-1])

    def test_the_first_wrong_line_of_several(self):
        self.bad(1, "cell x from 0 to 2 at 1\ncell x from 0 to 2 at 1\nnothing\n\nx")
        self.bad(2, "cell x from 0 to 2 at 1\neven when x = 1\neven when x = 1\nx")
        self.bad(0, "cell x from 3 to 2 at 2\neven when z = 1\n")
        self.bad(3, HEAD + "move a when true do z = 1\nmove a when true do nothing\n")

    def test_the_order_of_the_lines(self):
        cell, even, colour, move = HEAD.split("\n")[0], "even when true", "colour b when true", "move a when true do nothing"
        for many in (1, 2, 3, 4):
            for rows in itertools.product((cell, even, colour, move), repeat=many):
                self.judge("".join(row + "\n" for row in rows))
        self.bad(0, even + "\n")
        self.bad(0, move + "\n")
        self.bad(1, cell + "\n" + colour + "\n")
        self.bad(1, cell + "\n" + move + "\n")
        self.bad(3, "\n".join((cell, even, move, colour)) + "\n")
        self.bad(3, "\n".join((cell, even, move, even)) + "\n")
        self.bad(2, "\n".join((cell, even, cell, move)) + "\n")

    def test_names(self):
        for name in ("a", "z", "abcdef", "from", "to", "at", "do", "celled", "x"):
            self.good(f"cell {name} from 0 to 2 at 1\neven when {name} = 1\nmove {name} when {name} < 2 do {name} = {name}\n")
        for name in KEPT + ["abcdefg", "", "A", "aB", "a1", "1", "a_", "_", "=", "+", ",", "(", "a-b", "letters", "nothings"]:
            self.bad(0, f"cell {name} from 0 to 2 at 1\neven when true\nmove a when true do nothing\n")
            self.bad(3, HEAD + f"move {name} when true do nothing\n")

    def test_names_that_are_used_twice(self):
        self.bad(1, "cell x from 0 to 2 at 1\ncell x from 0 to 1 at 0\n")
        self.bad(4, HEAD + "move x when true do nothing\nmove x when true do nothing\n")
        self.good(HEAD + "move x when true do nothing\nmove y when true do nothing\n")
        self.good(HEAD + "colour b when true\ncolour b when true\nmove y when true do nothing\n")

    def test_names_of_cells_in_terms(self):
        self.bad(2, "cell x from 0 to 2 at 1\ncell y from 0 to 2 at 1\neven when z = 1\n")
        self.bad(3, HEAD + "colour b when x = z\n")
        self.bad(3, HEAD + "move z when z = 1 do nothing\n")
        self.bad(3, HEAD + "move z when true do z = 1\n")
        self.bad(3, HEAD + "move z when true do x = z\n")
        self.bad(3, HEAD + "move z when true do x = 1 + z\n")

    def test_numbers(self):
        for word in ("0", "1", "9", "10", "99", "100", "999"):
            self.good(f"cell x from 0 to 999 at {word}\neven when x = {word}\nmove a when true do x = {word}\n")
        for word in ("00", "01", "001", "010", "1000", "0999", "-1", "+1", "1.0", "1_0", "", "one", "0x1", "9" * 350, "1 0"):
            self.bad(0, f"cell x from {word} to 999 at 999\neven when true\nmove a when true do nothing\n")
            self.bad(0, f"cell x from 0 to {word} at 0\neven when true\nmove a when true do nothing\n")
            self.bad(0, f"cell x from 0 to 999 at {word}\neven when true\nmove a when true do nothing\n")
            self.bad(3, HEAD + f"colour b when x = {word}\n")
            self.bad(3, HEAD + f"move a when x = 0 do y = {word}\n")

    def test_values_that_are_out_of_order(self):
        for low, high, first in itertools.product((0, 1, 2, 10), repeat=3):
            text = f"cell x from {low} to {high} at {first}\neven when true\nmove a when true do nothing\n"
            if low <= first <= high:
                self.good(text)
            else:
                self.bad(0, text)

    def test_colours(self):
        for colour in "abcde":
            self.good(HEAD + f"colour {colour} when true\nmove a when true do nothing\n")
        for colour in ("f", "A", "", "ab", "abcde", "1", "x", "when"):
            self.bad(3, HEAD + f"colour {colour} when true\nmove a when true do nothing\n")

    def test_all_short_conditions(self):
        words = ["x", "1", "+", "=", "not", "(", ")", "and", "true", "z", "do"]
        cells = ["x", "y"]
        right = 0
        for many in range(1, 5):
            for chosen in itertools.product(words, repeat=many):
                text = HEAD + "colour b when " + " ".join(chosen) + "\nmove a when true do nothing\n"
                fine = is_condition(list(chosen), cells)
                right += fine
                try:
                    read_program(text)
                except BadProgram as error:
                    self.same((error.line, fine), (3, False))
                else:
                    self.assertTrue(fine, chosen)
        self.assertEqual(right, 1 + 1 + (1 + 4 + 1 + 1) + (1 + 4 + 1 + 1 + 1 + 1))

    def test_conditions(self):
        for condition in ("true", "not true", "x = y", "x + 1 - y < 3 + x", "( x > 1 )", "not ( not x > 1 or true ) and true",
                          "( ( x = x ) )", "true and not not true", "0 = 0", "5 > x or x = x and true"):
            self.good(HEAD + f"colour b when {condition}\nmove a when {condition} do nothing\n")
            self.good(HEAD.replace("even when true", "even when " + condition) + "move a when true do nothing\n")
        for condition in ("", "x", "x =", "= x", "x = y = x", "x = = y", "x + = y", "x - < y", "+ x = y", "( x ) = y", "( x + y ) = 1",
                          "not", "not x", "x not = y", "x and y", "x = ( y )", "( x = y", "x = y )", "( )", "true true", "true = true",
                          "true or", "or true", "x == y", "x <= y", "x != y", "x ! y", "x * y = 2", "False", "x = y and", "when true",
                          "x = y , x = y", "true do", "( true ) true", "not ( ) true", "true ( true )", "x = 1 ( true )", "nothing"):
            self.bad(3, HEAD + f"colour b when {condition}\nmove a when true do nothing\n")
            self.bad(3, HEAD + f"move a when {condition} do nothing\n")

    def test_changes(self):
        for changes in ("nothing", "x = 1", "x = x + y - 1", "x = y , y = x", "y = 0 , x = 0 - 1 + 1", "y = 1 + 999"):
            self.good(HEAD + f"move a when true do {changes}\n")
        for changes in ("", "x", "x =", "= 1", "1 = x", "x = 1 ,", ", x = 1", "x = 1 , , y = 1", "x = 1 y = 1", "x = 1 , x = 1",
                        "x = 1 , y = 1 , x = 2", "nothing , x = 1", "x = 1 , nothing", "nothing nothing", "x = true", "x = ( y )",
                        "x = y = 1", "x < 1", "x = y +", "x = - 1", "x + 1 = y", "x = 1 and y = 1", "x = nothing", "x = 1, y = 1",
                        "nothing do nothing", "x := 1", "x = 1 do"):
            self.bad(3, HEAD + f"move a when true do {changes}\n")

    def test_words_of_lines_that_may_be_names(self):
        names = "cell do from 0 to 9 at 1\ncell when from 0 to 9 at 1\n"
        self.bad(1, names)
        head = "cell do from 0 to 9 at 1\ncell from from 0 to 9 at 1\ncell to from 0 to 9 at 1\ncell at from 0 to 9 at 9\n"
        head += "even when do = from and to < at\n"
        self.good(head + "move do when do = do do do = do + do\nmove from when do < do + do or not do > do do from = to , to = from\n")
        self.bad(5, head + "move do when do do do = do\n")
        self.bad(5, head + "move do when do = do do = do\n")
        self.bad(5, head + "move do when do = do do do\n")
        self.bad(5, head + "move do when do = do do do do = do\n")
        program = read_program(head + "move do when do = do do do = do + do\n")
        self.same(possible(program, (3, 1, 1, 9)), (("do", (6, 1, 1, 9)),))

    def test_white_space(self):
        for text in (" " + GOOD, GOOD.replace(" 2 at", "  2 at"), GOOD.replace("x from", "x\tfrom"), GOOD.replace("at 1\n", "at 1 \n"),
                     GOOD.replace("cell x", "cell\nx"), "\n" + GOOD, GOOD.replace(" from 0", " from\n0")):
            self.bad(0, text)
        for text in (GOOD.replace("\nmove up", "\n\nmove up"), GOOD.replace("\nmove up", "\n move up"),
                     GOOD.replace("1 , do", "1  , do"), GOOD.replace("1 , do", "1, do"), GOOD.replace("1 , do", "1 ,\ndo"),
                     GOOD.replace("- x\n", "- x \n"), GOOD.replace("- x\n", "- x\r\n"), GOOD.replace("x + 1 ,", "x+1 ,")):
            self.bad(5, text)

    def test_30_lines(self):
        lines = [f"cell {'abcdefghij'[k]}x from 0 to {k} at {k // 2}\n" for k in range(10)]
        lines.append("even when ax + bx = cx\n")
        lines += [f"colour {'abcde'[k % 5]} when cx < dx + {k}\n" for k in range(9)]
        lines += [f"move m{'abcdefghij'[k]} when true do ax = bx , cx = ax + {k}\n" for k in range(10)]
        self.same(len(lines), 30)
        text = "".join(lines)
        self.good(text)
        for place in (0, 9, 10, 11, 19, 20, 29):
            self.bad(place, "".join(lines[:place]) + "x" + "".join(lines[place:]))

    def test_400_words_in_a_line(self):
        long = "x" + " + y - x" * 97
        condition = long + " = 0"
        line = f"colour b when {condition}\n"
        self.assertTrue(380 < len(line.split(" ")) <= 400)
        self.good(HEAD + line + f"move a when true do x = {long}\n")
        self.bad(3, HEAD + line.replace(" = 0", "") + "move a when true do nothing\n")
        self.bad(3, HEAD + line.replace("colour", "colours"))
        joint = "x = 1" + " or y < 2" * 98
        self.good(HEAD + f"move a when {joint} do nothing\n")
        self.bad(3, HEAD + f"move a when {joint} or do nothing\n")
        program = read_program(HEAD + line + f"move a when {joint} do y = {long}\n")
        self.same(possible(program, (1, 1)), (("a", (1, 1)),))
        self.same(possible(program, (5, 5)), ())

    def test_6_open_brackets_and_40_words_not(self):
        for many in range(7):
            condition = "( " * many + "x = 3" + " )" * many
            self.good(HEAD + f"move a when {condition} do nothing\n")
            self.bad(3, HEAD + f"move a when {condition} ) do nothing\n")
            self.bad(3, HEAD + f"move a when ( {condition} do nothing\n")
        for many in range(41):
            program = read_program(HEAD.replace("even when true", "even when " + "not " * many + "x = 3") + "move a when true do nothing\n")
            self.same((owner_of(program, (3, 0)), owner_of(program, (4, 0))), (many % 2, 1 - many % 2))
        self.good(HEAD + "colour b when " + "not " * 40 + "( " * 6 + "true" + " )" * 6 + "\nmove a when true do nothing\n")
        self.bad(3, HEAD + "colour b when " + "not " * 40 + "\nmove a when true do nothing\n")
        self.bad(3, HEAD + "colour b when " + "not " * 40 + "x\nmove a when true do nothing\n")

    def test_4000_characters(self):
        for text in ("x" * 4000, "\n" * 30, " " * 4000, "cell " * 80 + "\n", "( " * 6 + "\n", HEAD + "move a when " + "9" * 3000 + " = 1 do nothing\n"):
            self.judge(text)


class StateTests(Case):
    def judge(self, text, states=None):
        program = read_program(text)
        reading = Told(text)
        before = (program.cells, program.moves)
        if states is None:
            states = itertools.product(*[range(cell[1], cell[2] + 1) for cell in program.cells])
        for state in states:
            found = self.ask(possible, program, state)
            self.same(found, reading.possible(state))
            self.assertFalse(has_list(found))
            self.same(self.ask(owner_of, program, state), reading.owner(state))
            self.same(self.ask(colour_of, program, state), reading.colour(state))
        self.same((program.cells, program.moves), before)
        return program

    def test_every_state_of_small_programs(self):
        source = seeded("states of programs")
        for _ in range(120):
            self.judge(drawn_program(source, 3, 3))

    def test_the_text_of_these_tests(self):
        self.judge(GOOD, itertools.product(range(3), (10, 19, 20, 21, 299, 300)))

    def test_values_at_both_ends_of_a_cell(self):
        program = self.judge("cell x from 2 to 4 at 3\neven when true\nmove up when true do x = x + 1\nmove down when true do x = x - 1\n"
                             "move under when true do x = 0 - 1\nmove zero when true do x = 0\nmove over when true do x = 5\n")
        self.same(possible(program, (2,)), (("up", (3,)),))
        self.same(possible(program, (4,)), (("down", (3,)),))
        self.same(possible(program, (3,)), (("up", (4,)), ("down", (2,))))

    def test_changes_that_use_each_others_cells(self):
        program = self.judge("cell x from 0 to 9 at 1\ncell y from 0 to 9 at 2\ncell z from 0 to 9 at 3\neven when true\n"
                             "move turn when true do x = y , y = z , z = x\nmove add when true do x = x + y , y = x - z\n"
                             "move one when true do z = z + x - y\n", itertools.product(range(0, 10, 3), repeat=3))
        self.same(possible(program, (1, 2, 3)), (("turn", (2, 3, 1)), ("one", (1, 2, 2))))
        self.same(possible(program, (5, 1, 2)), (("turn", (1, 2, 5)), ("add", (6, 3, 2)), ("one", (5, 1, 6))))

    def test_terms_are_computed_from_left_to_right(self):
        program = read_program("cell x from 0 to 999 at 9\neven when x - 2 - 3 = 4\nmove a when x - 5 + 2 = 6 do x = x - 10 + 5 - 1 + 8\n")
        self.same((owner_of(program, (9,)), owner_of(program, (8,))), (0, 1))
        self.same(possible(program, (9,)), (("a", (11,)),))
        self.same(possible(program, (8,)), ())

    def test_values_below_0_on_the_way(self):
        program = read_program("cell x from 0 to 9 at 0\neven when 0 - 5 < x - 4\ncolour c when x - 999 < 0 - 990\nmove a when true do x = x - 9 + 5\n")
        self.same([owner_of(program, (x,)) for x in (0, 9)], [0, 0])
        self.same([colour_of(program, (x,)) for x in (8, 9)], ["c", "a"])
        self.same([possible(program, (x,)) for x in (3, 4)], [(), (("a", (0,)),)])

    def test_the_first_colour_that_holds(self):
        program = self.judge("cell x from 0 to 5 at 0\neven when true\ncolour c when x > 3\ncolour b when x > 1\ncolour e when x > 0\n"
                             "move a when true do nothing\n")
        self.same("".join(colour_of(program, [x]) for x in range(6)), "aebbcc")

    def test_moves_in_the_order_of_their_lines(self):
        program = self.judge("cell x from 0 to 5 at 0\neven when x = 0\nmove z when true do x = 1\nmove a when true do x = 1\nmove m when x < 2 do nothing\n")
        self.same(possible(program, (0,)), (("z", (1,)), ("a", (1,)), ("m", (0,))))
        self.same(possible(program, (2,)), (("z", (1,)), ("a", (1,))))

    def test_no_move_is_possible(self):
        program = self.judge("cell x from 0 to 1 at 0\neven when x = 0\nmove a when x = 1 do x = 2\nmove b when x > 1 do nothing\n")
        self.same([possible(program, (x,)) for x in (0, 1)], [(), ()])

    def test_a_state_is_kept_as_it_was(self):
        program = read_program(GOOD)
        state = [1, 20]
        possible(program, state)
        self.same(state, [1, 20])
