"""Point 65."""

from holdsalltrees.objectives import Objective
from holdsalltrees.splittrees import split_tree
from tests.objectives import COLOURS, all_objectives, drawn_objective, objective_of, sets_of, split_by_words
from tests.support import Case, seeded


class SplitTreeTests(Case):
    def test_the_example(self):
        self.example("""
>>> from holdsalltrees.objectives import Objective
>>> from holdsalltrees.splittrees import split_tree
>>> both = Objective.inf("a") & Objective.inf("b")
>>> split_tree(both, "ab")
('ab', (('a', ()), ('b', ())))
""")

    def judge(self, objective, colours):
        found = self.ask(split_tree, objective, colours)
        self.same(found, split_by_words(objective, colours))
        self.judge_node(objective, found)
        return found

    def judge_node(self, objective, node):
        label, children = node
        good = objective.good(label)
        labels = [child[0] for child in children]
        self.same(labels, sorted(labels))
        for some in sets_of(label)[1:]:
            if objective.good(some) != good:
                self.assertTrue(any(set(some) <= set(other) for other in labels))
        for child in children:
            self.assertNotEqual(objective.good(child[0]), good)
            self.judge_node(objective, child)

    def test_every_objective_of_two_colours(self):
        for objective in all_objectives("ab"):
            for colours in ("a", "b", "ab", "abc", "c", "de", "abde"):
                self.judge(objective, colours)
        for objective in all_objectives("ce"):
            for colours in ("c", "e", "ce", "ade"):
                self.judge(objective, colours)

    def test_drawn_objectives_of_three_and_four_colours(self):
        source = seeded("split trees")
        for colours in ("abc", "bde", "abcd", "acde", "bcde", "abcde"):
            for _ in range(40):
                objective = drawn_objective(source, colours)
                self.judge(objective, colours[:4])
                self.judge(objective, source.choice([some for some in sets_of(COLOURS)[1:] if len(some) <= 4]))

    def test_leaves(self):
        for objective in (Objective.always(), Objective.never()):
            for some in sets_of(COLOURS)[1:31]:
                self.same(split_tree(objective, some), (some, ()))
        for objective in all_objectives("ab"):
            for colour in "abc":
                self.same(split_tree(objective, colour), (colour, ()))

    def test_the_empty_set_is_no_label(self):
        # Only the empty set is good, or only it is not good.
        only = objective_of([""], "abc")
        self.same(split_tree(only, "abc"), ("abc", ()))
        self.same(split_tree(~only, "abc"), ("abc", ()))
        self.same(split_tree(only, "ade"), ("ade", (("de", ()),)))

    def test_alphabetical_order(self):
        # The sets with an even number of colours are good: each node has all sets with one colour less below it.
        even = objective_of([some for some in sets_of("abcd") if len(some) % 2 == 0], "abcd")
        found = self.judge(even, "abcd")
        self.same([child[0] for child in found[1]], ["abc", "abd", "acd", "bcd"])
        self.same([child[0] for child in found[1][1][1]], ["ab", "ad", "bd"])
        mixed = objective_of(["a", "bc", "bd", "cd"], "abcd")
        self.same([child[0] for child in self.judge(mixed, "abcd")[1]], ["a", "bc", "bd", "cd"])
        mixed = objective_of(["abc", "ad", "b", "bd"], "abcd")
        self.same([child[0] for child in self.judge(mixed, "abcd")[1]], ["abc", "ad", "bd"])
