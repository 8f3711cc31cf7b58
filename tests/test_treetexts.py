"""Point 11."""

import itertools

from holdsalltrees.errors import BadTree
from holdsalltrees.treetexts import read_tree, tree_text
from tests.support import Case, chain, perfect, random_tree, seeded, trees_to


def nodes_as_text(tree):
    return repr(tree).replace(",", "").replace(" ", "")


class TreeTextTests(Case):
    def test_texts_of_small_trees(self):
        self.same(self.ask(tree_text, ()), "()")
        self.same(self.ask(tree_text, ((), ((),))), "(()(()))")
        for tree in trees_to(7):
            text = self.ask(tree_text, tree)
            self.same(text, nodes_as_text(tree))
            self.same(self.ask(read_tree, text), tree)

    def test_texts_of_1200_characters(self):
        source = seeded("texts")
        for tree in (((),) * 599, perfect(8), random_tree(source, 600, 12), random_tree(source, 600, 3)):
            text = self.ask(tree_text, tree)
            self.same(text, nodes_as_text(tree))
            self.same(self.ask(read_tree, text), tree)
        wide = "(" + "()" * 599 + ")"
        self.assertEqual(len(wide), 1200)
        self.same(self.ask(read_tree, wide), ((),) * 599)
        self.refuses(BadTree(1199), read_tree, wide[:-1])
        self.refuses(BadTree(1199), read_tree, wide[:-1] + " ")
        self.refuses(BadTree(1198), read_tree, wide[:-2] + "\n)")
        self.refuses(BadTree(1200), read_tree, wide + "(")
        self.refuses(BadTree(2), read_tree, "()" * 600)

    def test_deep_texts(self):
        self.same(self.ask(read_tree, "(" * 13 + ")" * 13), chain(12))
        self.same(self.ask(tree_text, chain(12)), "(" * 13 + ")" * 13)
        self.refuses(BadTree(13), read_tree, "(" * 13)
        self.refuses(BadTree(26), read_tree, "(" * 13 + ")" * 14)

    def test_the_errors_that_the_point_shows(self):
        self.refuses(BadTree(0), read_tree, ")")
        self.refuses(BadTree(2), read_tree, "()(")
        self.refuses(BadTree(3), read_tree, "(()")
        self.refuses(BadTree(0), read_tree, "")

    def test_other_characters(self):
        for sign in " \n[]{}a0,~":
            self.refuses(BadTree(0), read_tree, sign + "()")
            self.refuses(BadTree(1), read_tree, "(" + sign + ")")
            self.refuses(BadTree(2), read_tree, "()" + sign)
            self.refuses(BadTree(3), read_tree, "(()" + sign)

    def test_every_short_string(self):
        texts = {nodes_as_text(tree) for tree in trees_to(7)}
        # Each beginning with at most 7 characters goes on to a text with at most 14.
        begun = {text[:end] for text in texts for end in range(len(text) + 1)}
        for length in range(8):
            for signs in itertools.product("()x", repeat=length):
                text = "".join(signs)
                if text in texts:
                    self.same(nodes_as_text(read_tree(text)), text)
                    continue
                wrong = [end for end in range(length + 1) if text[:end] not in begun]
                index = wrong[0] - 1 if wrong else length
                with self.assertRaises(BadTree) as caught:
                    read_tree(text)
                self.same(vars(caught.exception), {"index": index})
