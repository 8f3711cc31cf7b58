"""Point 77."""

from holdsalltrees.arenas import Arena
from holdsalltrees.errors import TooManyStates
from holdsalltrees.explorations import Exploration, explore
from holdsalltrees.programs import read_program
from tests.programs import Told, drawn_program
from tests.support import Case, has_list, seeded

COUNTER = "cell x from 0 to {} at 0\neven when true\nmove up when true do x = x + 1\n"


def told(text, limit):
    found = explore(read_program(text), limit=limit)
    return (found.states, (found.arena.owners, found.arena.colours, found.arena.successors))


class ExplorationTests(Case):
    def judge(self, text, limit=100):
        """The number of states, or None if there are too many."""
        reading = Told(text)
        states = reading.explored()
        program = read_program(text)
        if len(states) > limit:
            self.refuses(TooManyStates(limit), told, text, limit)
            with self.assertRaises(TooManyStates):
                explore(program, limit=limit)
            return None
        found = explore(program, limit=limit)
        self.assertIsInstance(found, Exploration)
        self.assertIsInstance(found.arena, Arena)
        self.same(found.states, tuple(states))
        self.same(len(found.arena), len(states))
        for vertex, state in enumerate(states):
            self.same(found.arena.owners[vertex], reading.owner(state))
            self.same(found.arena.colours[vertex], reading.colour(state))
            goals = sorted({states.index(after) for _, after in reading.possible(state)})
            self.same(found.arena.successors[vertex], tuple(goals or [vertex]))
        self.same(self.ask(told, text, limit), told(text, limit))
        self.assertFalse(has_list(told(text, limit)))
        self.same(told(text, limit)[0], explore(program, limit=limit).states)
        return len(states)

    def test_drawn_programs(self):
        source = seeded("explorations")
        sizes = set()
        for _ in range(200):
            text = drawn_program(source, 3, source.choice((1, 3, 6)))
            # Some moves that lead far.
            for place, (name, *_) in enumerate(Told(text).cells):
                if source.random() < 0.6:
                    text += f"move r{'abc'[place]} when {name} < 4 do {name} = {name} + 1\n"
                if source.random() < 0.6:
                    text += f"move s{'abc'[place]} when true do {name} = {name} - 1\n"
            sizes.add(self.judge(text, source.choice((100, 100, 7))))
        self.assertTrue({None, 1, 2, 3, 4} <= sizes, sizes)
        self.assertGreater(max(size for size in sizes if size), 30)

    def test_the_limit(self):
        for last in (0, 1, 5, 98, 99):
            text = COUNTER.format(last)
            for limit in {1, last, last + 1, last + 2, 100} - {0, 101}:
                self.same(self.judge(text, limit), last + 1 if limit >= last + 1 else None)
        self.same(self.judge(COUNTER.format(100)), None)
        self.refuses(TooManyStates(1), told, COUNTER.format(1), 1)

    def test_states_that_are_found_last(self):
        # The last state is found when the limit is just reached, and all others lead to known ones.
        text = COUNTER.format(9) + "move back when true do x = 0\n"
        self.same(self.judge(text, 10), 10)
        self.same(self.judge(text, 9), None)

    def test_1000_states(self):
        text = "cell x from 0 to 9 at 0\ncell y from 0 to 9 at 0\ncell z from 0 to 9 at 0\neven when x = y\n"
        for name in "xyz":
            text += f"move {name} when true do {name} = {name} + 1\nmove {name}b when true do {name} = {name} - 1\n"
        for limit in (1, 50, 99, 100):
            self.refuses(TooManyStates(limit), told, text, limit)
        self.refuses(TooManyStates(100), told, COUNTER.format(999), 100)

    def test_100_states(self):
        text = "cell x from 0 to 9 at 4\ncell y from 0 to 9 at 7\neven when x < y\ncolour c when x + y > 9\ncolour e when x = 0\n"
        for name in "xy":
            text += f"move {name} when true do {name} = {name} + 1\nmove {name}b when true do {name} = {name} - 1\n"
        text += "move turn when true do x = y , y = x\nmove stay when x = 0 do nothing\n"
        self.same(self.judge(text), 100)
        self.same(self.judge(text, 99), None)

    def test_no_move_is_possible(self):
        text = "cell x from 0 to 3 at 1\neven when x < 2\ncolour d when x = 1\nmove a when x = 0 do nothing\n"
        self.same(told(text, 1), (((1,),), ((0,), "d", ((0,),))))
        self.same(told(COUNTER.format(1), 2), (((0,), (1,)), ((0, 0), "aa", ((1,), (1,)))))

    def test_the_order_of_the_states(self):
        text = "cell x from 0 to 9 at 5\neven when x > 4\nmove b when true do x = x - 1\nmove a when x > 4 do x = x + 2\n"
        states, (owners, _, rows) = told(text, 100)
        self.same(states, ((5,), (4,), (7,), (3,), (6,), (9,), (2,), (8,), (1,), (0,)))
        self.same(owners, (0, 1, 0, 1, 0, 0, 1, 0, 1, 1))
        self.same(rows, ((1, 2), (3,), (4, 5), (6,), (0, 7), (7,), (8,), (2,), (9,), (9,)))

    def test_doubles(self):
        text = "cell x from 0 to 9 at 0\neven when true\nmove a when true do x = 1\nmove b when true do x = 1\nmove c when true do nothing\n"
        self.same(told(text, 2), (((0,), (1,)), ((0, 0), "aa", ((0, 1), (1,)))))
