"""What several tests use: examples, askings with lists and tuples, and trees to try."""

import copy
import random
import unittest

from holdsalltrees import errors
from holdsalltrees.errors import TreesError


def as_lists(value):
    """The value with lists in the place of tuples, at every level."""
    if isinstance(value, (list, tuple)):
        return [as_lists(item) for item in value]
    return value


def as_mixed(value, turn):
    """The value with lists and tuples by turns, depth by depth."""
    if isinstance(value, (list, tuple)):
        items = [as_mixed(item, not turn) for item in value]
        return items if turn else tuple(items)
    return value


def as_siblings(value, turn):
    """The value with lists and tuples by turns, sibling by sibling."""
    if isinstance(value, (list, tuple)):
        items = [as_siblings(item, turn ^ (index % 2 == 1)) for index, item in enumerate(value)]
        return items if turn else tuple(items)
    return value


def has_list(value):
    if isinstance(value, list):
        return True
    return isinstance(value, tuple) and any(has_list(item) for item in value)


def outcome(function, args, named):
    """What a call gives: the kind and the fields of an error, or the answer."""
    try:
        return ("answer", function(*args, **named))
    except TreesError as error:
        return (type(error).__name__, vars(error))


def sequences_in(args, named):
    """Copies of the sequences among the arguments."""
    values = list(args) + list(named.values())
    return copy.deepcopy([value for value in values if isinstance(value, (list, tuple))])


class Case(unittest.TestCase):
    """A test case that asks each question in several ways."""

    def same(self, one, two):
        """Equal, and of the same kinds at every level: True is not 1, and a list is no tuple."""
        self.assertEqual(repr(one), repr(two))

    def told(self, function, args, named):
        first = outcome(function, args, named)
        ways = [
            lambda value: value,
            as_lists,
            lambda value: as_mixed(value, True),
            lambda value: as_mixed(value, False),
            lambda value: as_siblings(value, True),
            lambda value: as_siblings(value, False),
        ]
        for way in ways:
            passed = [way(value) for value in args]
            words = {name: way(value) for name, value in named.items()}
            before = sequences_in(passed, words)
            self.alike(outcome(function, passed, words), first)
            self.same(sequences_in(passed, words), before)
        return first

    def alike(self, one, two):
        """Equal outcomes. Objects that are no plain values are compared by ==."""
        self.assertEqual(one, two)
        if isinstance(one[1], (tuple, list, dict, str, int, type(None))):
            self.same(one, two)

    def ask(self, function, *args, **named):
        """The answer, which is the same for lists, tuples and mixtures, and which contains no list."""
        kind, answer = self.told(function, args, named)
        self.assertEqual(kind, "answer", (function, args, answer))
        self.assertFalse(has_list(answer))
        return answer

    def refuses(self, error, function, *args, **named):
        """The call raises an error that is equal to this one, for lists, tuples and mixtures."""
        kind, fields = self.told(function, args, named)
        self.same((kind, fields), (type(error).__name__, vars(error)))

    def example(self, text):
        """Runs an example of the document."""
        space = {}
        lines = text.strip().split("\n")
        while lines:
            line = lines.pop(0)
            self.assertTrue(line.startswith(">>> "), line)
            source = line[4:]
            if not lines or lines[0].startswith(">>> "):
                exec(source, space)
                continue
            expected = lines.pop(0)
            if expected.startswith("raises "):
                wanted = eval(expected[len("raises "):], vars(errors))
                with self.assertRaises(type(wanted)) as caught:
                    eval(source, space)
                self.same(vars(caught.exception), vars(wanted))
            else:
                self.assertEqual(repr(eval(source, space)), expected)


def rows_of_trees(nodes):
    """All sequences of trees with this number of nodes together."""
    if nodes == 0:
        return [()]
    found = []
    for many in range(1, nodes + 1):
        for first in rows_of_trees(many - 1):
            found.extend((first,) + rest for rest in rows_of_trees(nodes - many))
    return found


def trees_to(nodes):
    """All trees with at most this number of nodes."""
    return [tree for many in range(nodes) for tree in rows_of_trees(many)]


def nodes_of(tree, path=()):
    """The paths of all nodes, in lexicographic order."""
    found = [path]
    for index, child in enumerate(tree):
        found.extend(nodes_of(child, path + (index,)))
    return found


def at(tree, path):
    for index in path:
        tree = tree[index]
    return tree


def random_tree(source, nodes, height):
    """A tree with this number of nodes (at least) and at most this height."""
    children = [[]]
    depths = [0]
    while len(children) < nodes:
        parent = source.randrange(len(children))
        if depths[parent] < height:
            children[parent].append(len(children))
            children.append([])
            depths.append(depths[parent] + 1)
    return _drawn(children, 0)


def _drawn(children, node):
    return tuple(_drawn(children, child) for child in children[node])


def perfect(height, many=2):
    """The tree in which each inner node has this number of children, and all leaves this depth."""
    return () if height == 0 else (perfect(height - 1, many),) * many


def chain(height, below=()):
    return below if height == 0 else (chain(height - 1, below),)


def seeded(text):
    """A source of numbers that are the same in each run."""
    return random.Random(text)


# Values that are not whole numbers.
ODD_THINGS = [True, False, None, "", "1", "0", (), [], (1,), [1], ((1,),), {}, {1: 1}, 1.0, 0.5, b"1", object()]
