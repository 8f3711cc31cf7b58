"""The errors of the package. Each one has a field for each of its arguments."""

from holdsalltrees.values import as_tuples


class TreesError(ValueError):
    """The base class of all errors of the package."""


class TooHigh(TreesError):
    """A tree of this height is higher than it may be."""

    def __init__(self, height):
        self.height = height


class NotFull(TreesError):
    """The leaf with this index does not have the depth of a full tree."""

    def __init__(self, leaf):
        self.leaf = leaf


class BadRow(TreesError):
    """The item with this index cannot stand in a row."""

    def __init__(self, index):
        self.index = index


class BadTree(TreesError):
    """No text of a tree goes on like this at this index."""

    def __init__(self, index):
        self.index = index


class TooLarge(TreesError):
    """A universal tree with this number of leaves is too large to be built."""

    def __init__(self, size):
        self.size = size


class TooManyLeaves(TreesError):
    """A tree has this number of leaves, which is too great."""

    def __init__(self, count):
        self.count = count


class TooBranched(TreesError):
    """A tree has this branching number, which is too great."""

    def __init__(self, number):
        self.number = number


class BadVertex(TreesError):
    """This vertex does not have what a vertex of a game or an arena has."""

    def __init__(self, vertex):
        self.vertex = vertex


class DeadEnd(TreesError):
    """This vertex has no successor in a vertex set."""

    def __init__(self, vertex):
        self.vertex = vertex


class NotAPlay(TreesError):
    """A sequence of numbers stops to be a play at this index."""

    def __init__(self, index):
        self.index = index


class PlanGap(TreesError):
    """A plan does not say what to do at this vertex."""

    def __init__(self, vertex):
        self.vertex = vertex


class BadLine(TreesError):
    """The line with this number is not a line of the text of a game."""

    def __init__(self, line):
        self.line = line


class TooLow(TreesError):
    """A leaf order has this height, which is less than that of the game."""

    def __init__(self, height):
        self.height = height


class NotRanking(TreesError):
    """A sequence of ranks is not a ranking."""


class NotDecomposition(TreesError):
    """A value is not a decomposition of the game."""


class BadState(TreesError):
    """The row of this state does not have what a row of a machine has."""

    def __init__(self, state):
        self.state = state


class BadStart(TreesError):
    """This value is not the number of a state."""

    def __init__(self, start):
        self.start = as_tuples(start)


class TooFewPriorities(TreesError):
    """A watcher reads this number of priorities, which is too small for the game."""

    def __init__(self, count):
        self.count = count


class LetsLost(TreesError):
    """A watcher lets a play through that player 1 wins."""


class BadObjective(TreesError):
    """No text of an objective goes on like this at the word with this index."""

    def __init__(self, index):
        self.index = index


class WrongAutomaton(TreesError):
    """An automaton is not right for the objective."""


class BadProgram(TreesError):
    """No text of a program goes on like this in the line with this number."""

    def __init__(self, line):
        self.line = line


class TooManyStates(TreesError):
    """A program has more states than this limit."""

    def __init__(self, limit):
        self.limit = limit


class BadDeed(TreesError):
    """A value is not a deed that is possible in the game."""


class NothingToUndo(TreesError):
    """There is no deed that may be taken back."""


class NotYourMove(TreesError):
    """The other player moves at this vertex."""

    def __init__(self, vertex):
        self.vertex = vertex


class NoSuchMove(TreesError):
    """This number is not a successor of the vertex where the token is."""

    def __init__(self, successor):
        self.successor = successor
