"""Point 34."""

import re

from holdsalltrees.errors import BadLine
from holdsalltrees.games import Game
from holdsalltrees.gametexts import game_text, read_game
from tests.support import Case, seeded
from tests.test_games import fields, random_game

GOOD = "0 even 2 1\n1 odd 1 0 1 2\n2 even 30 2\n"


def first_bad_line(text):
    """The first line that is not as the point says, or None."""
    lines = re.findall("[^\n]*\n|[^\n]+", text)
    for number, line in enumerate(lines):
        form = re.fullmatch("(0|[1-9][0-9]*) (even|odd) (0|[1-9][0-9]*)((?: (?:0|[1-9][0-9]*))+)\n", line)
        if form is None or int(form[1]) != number or int(form[3]) > 30:
            return number
        row = [int(word) for word in form[4].split()]
        if row != sorted(set(row)) or row[-1] >= len(lines):
            return number
    return None


class GameTextTests(Case):
    def read(self, text):
        return fields(read_game(text))

    def test_the_example(self):
        self.example(r"""
>>> from holdsalltrees.games import Game
>>> from holdsalltrees.gametexts import game_text, read_game
>>> game_text(Game([0, 1], [2, 1], [[1], [0, 1]]))
'0 even 2 1\n1 odd 1 0 1\n'
>>> read_game("0 even 2 0\n1 odd 01 0\n")
raises BadLine(1)
""")

    def test_texts_of_games(self):
        self.same(self.ask(game_text, Game([], [], [])), "")
        self.same(self.ask(self.read, ""), ((), (), ()))
        self.same(self.ask(game_text, Game([1], [0], [[0]])), "0 odd 0 0\n")
        self.same(self.ask(self.read, GOOD), ((0, 1, 0), (2, 1, 30), ((1,), (0, 1, 2), (2,))))
        self.same(game_text(read_game(GOOD)), GOOD)

    def test_there_and_back(self):
        source = seeded("texts of games")
        for vertices in list(range(1, 13)) + [40]:
            game = random_game(source, vertices)
            text = self.ask(game_text, game)
            self.assertEqual(text.count("\n"), vertices)
            self.assertTrue(read_game(text) == game)
            self.same(game_text(read_game(text)), text)
            self.assertIsNone(first_bad_line(text))

    def test_texts_of_40_lines_and_4000_characters(self):
        owners = [vertex % 2 for vertex in range(40)]
        rows = [list(range(40)) if vertex < 32 else [vertex] for vertex in range(40)]
        game = Game(owners, [30] * 40, rows)
        text = self.ask(game_text, game)
        self.assertEqual(text.count("\n"), 40)
        self.assertEqual(len(text) // 100, 39)
        self.assertTrue(read_game(text) == game)
        self.refuses(BadLine(39), read_game, text[:-1])
        self.refuses(BadLine(31), read_game, text.replace("\n32 ", " 40\n32 "))
        self.refuses(BadLine(0), read_game, "0 even 0 " + "9" * 3990 + "\n")
        self.refuses(BadLine(0), read_game, "0 even " + "9" * 3990 + " 0\n")
        self.refuses(BadLine(0), read_game, "9" * 3990 + " even 0 0\n")
        self.refuses(BadLine(0), read_game, "0 even 0 0" + " 0" * 1994 + "\n")
        self.refuses(BadLine(0), read_game, "x" * 4000)
        self.refuses(BadLine(0), read_game, "\n" * 40)
        self.refuses(BadLine(0), read_game, " " * 3999 + "\n")

    def test_the_number_of_the_line(self):
        for word in ("1", "00", "", "-0", "+0", "0x", "a", "0 0", " 0", "0 "):
            self.refuses(BadLine(0), read_game, word + " even 2 0\n")
        for word in ("0", "2", "01", "-1", "", "one"):
            self.refuses(BadLine(1), read_game, "0 even 2 0\n" + word + " odd 2 0\n")

    def test_the_owner(self):
        for word in ("Even", "EVEN", "eve", "evenn", "odds", "0", "1", "", "even odd", "even ", " even"):
            self.refuses(BadLine(0), read_game, "0 " + word + " 2 0\n")
            self.refuses(BadLine(1), read_game, "0 odd 2 0\n1 " + word + " 2 0\n")

    def test_the_priority(self):
        for priority in range(31):
            self.same(self.ask(self.read, f"0 even {priority} 0\n"), ((0,), (priority,), ((0,),)))
        for word in ("31", "100", "9" * 50, "-1", "+1", "01", "00", "030", "1.0", "1_0", "x", "", "0x1", "1 ", " 1"):
            self.refuses(BadLine(0), read_game, "0 even " + word + " 0\n")

    def test_the_successors(self):
        three = "0 even 2 {}\n1 odd 0 0\n2 odd 0 0\n"
        for row in ("0", "1", "2", "0 1", "0 2", "1 2", "0 1 2"):
            self.same(read_game(three.format(row)).successors[0], tuple(int(word) for word in row.split()))
        wrong = ("3", "0 3", "0 0", "1 0", "0 2 1", "0 1 1", "", "-1", "+1", "00", "01", "0 02", "x", "0 x", "0  1", "0 ",
                 " 0", "1,2", "9" * 60, "0 1 2 3", "0.0", "0\t1")
        for row in wrong:
            self.refuses(BadLine(0), read_game, three.format(row))
        self.refuses(BadLine(0), read_game, "0 even 2\n")
        self.refuses(BadLine(0), read_game, "0 even\n")
        self.refuses(BadLine(0), read_game, "0\n")

    def test_all_lines_count(self):
        # Line 1 is wrong, but it is a line to which line 0 may lead.
        self.refuses(BadLine(1), read_game, "0 even 2 1\nnonsense\n")
        self.refuses(BadLine(1), read_game, "0 even 2 1\n1 odd 0 0")
        self.refuses(BadLine(1), read_game, "0 even 2 1\n\n")
        self.refuses(BadLine(1), read_game, "0 even 2 2\n\nx")
        self.refuses(BadLine(0), read_game, "0 even 2 3\n\nx")
        self.refuses(BadLine(0), read_game, "0 even 2 1\n")

    def test_newlines(self):
        self.refuses(BadLine(0), read_game, "\n")
        self.refuses(BadLine(0), read_game, "0 even 2 0")
        self.refuses(BadLine(0), read_game, " ")
        self.refuses(BadLine(0), read_game, "0")
        self.refuses(BadLine(0), read_game, "\n0 even 2 0\n")
        self.refuses(BadLine(1), read_game, "0 even 2 0\n\n")
        self.refuses(BadLine(1), read_game, "0 even 2 0\n\n1 even 2 0\n")
        self.refuses(BadLine(1), read_game, "0 even 2 0\n ")
        self.refuses(BadLine(2), read_game, GOOD[:-1])
        self.refuses(BadLine(3), read_game, GOOD + "\n")
        self.refuses(BadLine(3), read_game, GOOD + "3 odd 0 0")

    def test_the_first_wrong_line(self):
        self.refuses(BadLine(0), read_game, "0 even 2 0 \n1 odd x 0\n2")
        self.refuses(BadLine(1), read_game, "0 even 2 0\n1 odd x 0\n2")
        self.refuses(BadLine(2), read_game, "0 even 2 0\n1 odd 1 0\n2")
        self.refuses(BadLine(0), read_game, "0 even 2 3\n1 odd x 0\n2")

    def test_texts_that_are_changed_in_one_place(self):
        signs = "019 \nevodx-"
        for place in range(len(GOOD)):
            changes = [GOOD[:place] + sign + GOOD[place + 1:] for sign in signs]
            changes += [GOOD[:place] + sign + GOOD[place:] for sign in signs]
            for text in changes + [GOOD[:place] + GOOD[place + 1:], GOOD[:place]]:
                line = first_bad_line(text)
                if line is None:
                    self.same(game_text(read_game(text)), text)
                else:
                    self.refuses(BadLine(line), read_game, text)
