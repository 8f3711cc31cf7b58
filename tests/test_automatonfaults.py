"""Points 68 and 69."""

from holdsalltrees.automata import Automaton, automaton_of
from holdsalltrees.automatonfaults import automaton_fault, separate_states
from holdsalltrees.errors import WrongAutomaton
from holdsalltrees.objectives import Objective
from tests.objectives import (
    all_objectives, colour_set, drawn_objective, given, leaves_with_ways, objective_of, sets_of, split_by_words,
)
from tests.support import Case, seeded
from tests.test_automata import automaton_fields


def drawn_automaton(source, colours, states, most=20):
    rows = [[(source.randrange(states), source.randint(0, most)) for _ in colours] for _ in range(states)]
    return Automaton(colours, rows, start=source.randrange(states))


def changed(source, automaton):
    """The automaton with one state or one priority changed."""
    rows = [list(row) for row in automaton.rows]
    row = source.choice(rows)
    place = source.randrange(len(row))
    state, priority = row[place]
    if source.random() < 0.5:
        row[place] = (source.randrange(len(rows)), priority)
    else:
        row[place] = (state, max(0, priority + source.choice((-2, -1, 1, 2))))
    return Automaton(automaton.colours, rows, start=automaton.start)


def doubled(source, automaton):
    """An automaton that gives the same with twice as many states, in another order."""
    count = len(automaton.rows)
    names = list(range(2 * count))
    source.shuffle(names)
    rows = [None] * (2 * count)
    for state in range(2 * count):
        row = automaton.rows[state % count]
        rows[names[state]] = [(names[y + count * source.randint(0, 1)], priority) for y, priority in row]
    return Automaton(automaton.colours, rows, start=names[automaton.start])


def with_more_states(source, automaton, many):
    """The automaton with so many states more that cannot be reached."""
    count = len(automaton.rows) + many
    rows = list(automaton.rows)
    for _ in range(many):
        rows.append([(source.randrange(count), source.randint(0, 9)) for _ in automaton.colours])
    return Automaton(automaton.colours, rows, start=automaton.start)


def states_from(automaton, colours, state):
    found = {state}
    while True:
        more = set()
        for x in found:
            more |= {y for colour, (y, _) in zip(automaton.colours, automaton.rows[x]) if colour in colours}
        if more <= found:
            return found
        found |= more


def is_right(automaton, objective):
    """Whether all rings are judged well: by all pairs of a colour set and a greatest priority that walks can have."""
    for first in states_from(automaton, automaton.colours, automaton.start):
        work = [(first, frozenset(), -1)]
        found = set(work)
        while work:
            x, seen, most = work.pop()
            for colour, (y, priority) in zip(automaton.colours, automaton.rows[x]):
                place = (y, seen | {colour}, max(most, priority))
                if place not in found:
                    found.add(place)
                    work.append(place)
        for x, seen, most in found:
            if x == first and seen and (most % 2 == 0) != objective.good("".join(sorted(seen))):
                return False
    return True


def fault_of(colours, rows, start, objective):
    return automaton_fault(Automaton(colours, rows, start=start), objective)


def separate_of(colours, rows, start, objective):
    return separate_states(Automaton(colours, rows, start=start), objective)


class FaultTests(Case):
    def judge(self, automaton, objective):
        """Whether the automaton is right."""
        before = automaton_fields(automaton)
        fault = self.ask(fault_of, *before, objective)
        self.same(automaton_fault(automaton, objective), fault)
        self.same(automaton_fields(automaton), before)
        if fault is None:
            self.assertTrue(is_right(automaton, objective))
            return True
        self.assertIsInstance(fault, tuple)
        lead, ring = fault
        self.assertIsInstance(lead, str)
        self.assertIsInstance(ring, str)
        self.assertTrue(ring)
        self.assertLessEqual(set(lead + ring), set(automaton.colours))
        self.assertNotEqual(given(automaton, lead, ring) % 2 == 0, objective.good(colour_set(ring)))
        return False

    def test_automata_of_split_trees(self):
        source = seeded("automata that are right")
        for objective in all_objectives("ab"):
            for colours in ("a", "b", "ab", "abc", "e"):
                automaton = automaton_of(objective, colours)
                self.assertTrue(self.judge(automaton, objective))
                self.assertTrue(self.judge(doubled(source, automaton), objective))
                self.assertTrue(self.judge(with_more_states(source, automaton, 2), objective))
        for colours in ("abc", "bde", "abcd", "acde"):
            for _ in range(15):
                objective = drawn_objective(source, colours)
                self.assertTrue(self.judge(automaton_of(objective, colours), objective))

    def test_automata_with_one_item_changed(self):
        source = seeded("automata with a change")
        right = 0
        for turn in range(250):
            colours = source.choice(("ab", "abc", "bce"))
            objective = drawn_objective(source, colours)
            automaton = automaton_of(objective, colours)
            if turn % 3 == 0:
                automaton = doubled(source, automaton)
            automaton = changed(source, automaton)
            if turn % 2:
                automaton = with_more_states(source, automaton, 1)
            right += self.judge(automaton, objective)
        self.assertTrue(20 < right < 200, right)

    def test_drawn_automata(self):
        source = seeded("drawn automata")
        right = 0
        for _ in range(300):
            colours = source.choice(("a", "d", "ab", "abc", "bcde"))
            automaton = drawn_automaton(source, colours, source.randint(1, 5), source.choice((0, 1, 2, 5, 20)))
            right += self.judge(automaton, drawn_objective(source, "abcde"))
        self.assertTrue(5 < right < 150, right)

    def test_another_objective(self):
        for one in all_objectives("ab"):
            automaton = automaton_of(one, "ab")
            for two in all_objectives("ab"):
                # The empty set does not matter here.
                equal = all(one.good(some) == two.good(some) for some in ("a", "b", "ab"))
                self.same(self.judge(automaton, two), equal)

    def test_states_that_cannot_be_reached(self):
        rows = (((0, 0),), ((1, 1),))
        self.same(fault_of("a", rows, 0, Objective.inf("a")), None)
        self.same(fault_of("a", rows, 1, Objective.inf("a")) is None, False)
        self.same(fault_of("a", rows, 1, Objective.never()), None)

    def test_the_lead(self):
        rows = (((1, 0), (0, 0)), ((2, 0), (1, 0)), ((2, 0), (2, 1)))
        lead, ring = fault_of("ab", rows, 0, Objective.always())
        self.same(colour_set(lead), "a")
        self.assertIn("b", ring)
        self.assertGreaterEqual(lead.count("a"), 2)

    def test_a_ring_that_needs_several_rounds(self):
        # The state tells the last colour; the set of all three colours is wrong, all others are right.
        goods = [some for some in sets_of("abc") if some != "abc"]
        rows = [[(0, 2), (1, 2), (2, 2)]] * 3
        automaton = Automaton("abc", rows)
        self.assertTrue(self.judge(automaton, Objective.always()))
        self.assertFalse(self.judge(automaton, objective_of(goods, "abc")))
        ring = automaton_fault(automaton, objective_of(goods, "abc"))[1]
        self.same(colour_set(ring), "abc")

    def test_priorities_up_to_20(self):
        for priority in range(21):
            rows = (((0, priority),),)
            good = priority % 2 == 0
            self.same(fault_of("c", rows, 0, Objective.inf("c")) is None, good)
            self.same(fault_of("c", rows, 0, ~Objective.inf("c")) is None, not good)

    def test_12_states_and_4_colours(self):
        source = seeded("large automata")
        for _ in range(6):
            self.judge(drawn_automaton(source, "abcd", 12), drawn_objective(source, "abcd"))
        for objective in large_objectives(source):
            automaton = automaton_of(objective, "abcd")
            more = with_more_states(source, automaton, 12 - len(automaton.rows))
            self.assertTrue(self.judge(more, objective))
            self.judge(changed(source, automaton), objective)
            self.judge(doubled(source, automaton_of(drawn_objective(source, "abc"), "abcd")), objective)


def large_objectives(source):
    """Objectives whose split trees have 9 to 12 leaves."""
    found = []
    while len(found) < 5:
        objective = drawn_objective(source, "abcd")
        if 9 <= len(leaves_with_ways(split_by_words(objective, "abcd"))) <= 12:
            found.append(objective)
    return found


class SeparateTests(Case):
    def judge(self, automaton, objective):
        """The states, or None if the automaton is wrong."""
        before = automaton_fields(automaton)
        if not is_right(automaton, objective):
            self.refuses(WrongAutomaton(), separate_of, *before, objective)
            self.refuses(WrongAutomaton(), separate_states, automaton, objective)
            return None
        found = self.ask(separate_of, *before, objective)
        self.same(separate_states(automaton, objective), found)
        self.assertIsInstance(found, tuple)
        root = split_by_words(objective, automaton.colours)
        self.assertEqual(len(found), len(leaves_with_ways(root)))
        self.assertEqual(len(set(found)), len(found))
        self.assertFalse(any(isinstance(state, bool) for state in found))
        reached = states_from(automaton, automaton.colours, automaton.start)
        self.assertLessEqual(set(found), reached)
        rest = list(found)
        self.assertLessEqual(self.judge_node(automaton, root, rest), reached)
        self.same(rest, [])
        self.same(automaton_fields(automaton), before)
        return found

    def judge_node(self, automaton, node, rest):
        """The set of the node. A closed set is what can be reached from any of its states."""
        label, children = node
        if not children:
            own = states_from(automaton, label, rest.pop(0))
        else:
            sets = [self.judge_node(automaton, child, rest) for child in children]
            for index, one in enumerate(sets):
                for two in sets[:index]:
                    self.same(sorted(one & two), [])
            own = states_from(automaton, label, min(sets[0]))
            for one in sets:
                self.assertLessEqual(one, own)
        for state in own:
            self.assertEqual(states_from(automaton, label, state), own)
        return own

    def test_automata_of_split_trees(self):
        source = seeded("separate states")
        for objective in all_objectives("ab"):
            for colours in ("a", "ab", "abe", "d"):
                automaton = automaton_of(objective, colours)
                self.assertIsNotNone(self.judge(automaton, objective))
                self.assertIsNotNone(self.judge(doubled(source, automaton), objective))
                self.assertIsNotNone(self.judge(with_more_states(source, automaton, 2), objective))
        for colours in ("abc", "bde", "abcd", "bcde"):
            for _ in range(15):
                objective = drawn_objective(source, colours)
                automaton = automaton_of(objective, colours)
                # All leaves are needed.
                self.same(sorted(self.judge(automaton, objective)), list(range(len(automaton.rows))))

    def test_automata_with_one_item_changed(self):
        source = seeded("separate states after a change")
        right = 0
        for turn in range(200):
            colours = source.choice(("ab", "abc", "bce"))
            objective = drawn_objective(source, colours)
            automaton = automaton_of(objective, colours)
            if turn % 2:
                automaton = with_more_states(source, doubled(source, automaton), 1)
            right += self.judge(changed(source, automaton), objective) is not None
        self.assertTrue(20 < right < 180, right)

    def test_drawn_automata(self):
        source = seeded("separate states of drawn automata")
        for _ in range(150):
            colours = source.choice(("a", "ab", "abc"))
            automaton = drawn_automaton(source, colours, source.randint(1, 5), source.choice((0, 1, 2)))
            self.judge(automaton, drawn_objective(source, colours))

    def test_states_on_the_way_that_never_come_again(self):
        # The start is left for ever.
        self.same(separate_of("a", (((1, 1),), ((1, 0),)), 0, Objective.always()), (1,))
        rows = (((1, 7), (2, 7)), ((1, 1), (2, 2)), ((1, 2), (2, 1)))
        both = Objective.inf("a") & Objective.inf("b")
        self.same(separate_of("ab", rows, 0, both), (1, 2))
        self.refuses(WrongAutomaton(), separate_of, "ab", rows, 0, ~both)

    def test_priorities_up_to_20(self):
        for priority in range(20):
            # Good and bad rings, with the greatest priorities that there are.
            rows = (((0, priority), (1, priority + 1)), ((0, priority + 1), (1, priority)))
            both = Objective.inf("a") & Objective.inf("b")
            objective = both if priority % 2 else ~both
            self.assertIsNotNone(self.judge(Automaton("ab", rows), objective))
            self.same(separate_of("ab", rows, 1, objective), (0, 1))
            self.assertIsNone(self.judge(Automaton("ab", rows), ~objective))

    def test_12_states_and_4_colours(self):
        source = seeded("large separate states")
        for objective in large_objectives(source):
            automaton = automaton_of(objective, "abcd")
            more = with_more_states(source, automaton, 12 - len(automaton.rows))
            self.assertIsNotNone(self.judge(more, objective))
            self.judge(changed(source, more), objective)
        for _ in range(5):
            objective = drawn_objective(source, "bcd")
            automaton = automaton_of(objective, "abcd")
            if len(automaton.rows) <= 6:
                self.assertIsNotNone(self.judge(doubled(source, automaton), objective))
