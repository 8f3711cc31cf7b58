"""Point 48."""

from holdsalltrees.games import Game
from holdsalltrees.registers import emptied, raised, signal, start_row
from tests.searches import rows_of_registers
from tests.support import Case, seeded


class RegisterTests(Case):
    def test_the_example(self):
        self.example("""
>>> from holdsalltrees.registers import raised, emptied, signal
>>> [raised((0, 1, 6), 3), emptied((3, 3, 6), 2, 3), emptied((3, 3, 6), 3, 3), signal(2, 3), signal(0, 0)]
[(3, 3, 6), (3, (3, 3, 6)), (6, (3, 3, 3)), 5, 1]
""")

    def test_start_rows(self):
        for top in range(31):
            game = Game([0, 1], [top, 0], [[0], [0, 1]])
            ceiling = top + 2 if top % 2 == 0 else top + 1
            for registers in range(1, 7):
                self.same(self.ask(start_row, game, registers), (ceiling,) * registers)
        self.same(self.ask(start_row, Game((), (), ()), 3), (2, 2, 2))

    def test_raised(self):
        for registers in range(1, 5):
            for row in rows_of_registers((0, 1, 3, 4), registers):
                for priority in range(6):
                    wanted = tuple(priority if number < priority else number for number in row)
                    self.same(self.ask(raised, row, priority), wanted)
        self.same(self.ask(raised, (0, 0, 39, 40, 40, 40), 40), (40,) * 6)
        self.same(self.ask(raised, (0, 1, 2, 3, 39, 40), 0), (0, 1, 2, 3, 39, 40))
        self.same(self.ask(raised, (0, 1, 2, 3, 39, 40), 39), (39, 39, 39, 39, 39, 40))
        self.same(self.ask(raised, (0,), 0), (0,))

    def test_each_register_emptied(self):
        source = seeded("emptied")
        for registers in range(1, 7):
            for _ in range(60):
                row = tuple(sorted(source.choice((0, 40, source.randint(0, 40))) for _ in range(registers)))
                for priority in {0, row[0], source.randint(0, row[0])}:
                    for which in range(1, registers + 1):
                        kept = list(row)
                        value = kept.pop(which - 1)
                        self.same(self.ask(emptied, row, which, priority), (value, (priority, *kept)))

    def test_six_registers(self):
        row = (2, 3, 3, 5, 8, 40)
        for which, after in enumerate(((1, 3, 3, 5, 8, 40), (1, 2, 3, 5, 8, 40), (1, 2, 3, 5, 8, 40),
                                       (1, 2, 3, 3, 8, 40), (1, 2, 3, 3, 5, 40), (1, 2, 3, 3, 5, 8)), 1):
            self.same(self.ask(emptied, row, which, 1), (row[which - 1], after))

    def test_signals(self):
        for value in range(41):
            self.same(self.ask(signal, 0, value), 1)
            for which in range(1, 7):
                self.same(self.ask(signal, which, value), 2 * which + (1 if value in range(1, 41, 2) else 0))
