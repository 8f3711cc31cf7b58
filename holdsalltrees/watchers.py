"""Watchers: machines that read the priorities of a play and may stop it."""

from holdsalltrees.drawntrees import DrawnTree
from holdsalltrees.errors import BadStart, BadState
from holdsalltrees.values import as_tuples, is_number_to


class Watcher:
    """A watcher with a row for each state, and with an item for each priority in a row."""

    def __init__(self, priorities, rows, *, start=0):
        last = len(rows) - 1
        for state, row in enumerate(rows):
            right = [item is None or is_number_to(item, last) for item in row]
            if len(row) != priorities or not all(right):
                raise BadState(state)
        if not is_number_to(start, last):
            raise BadStart(start)
        self.priorities = priorities
        self.rows = as_tuples(rows)
        self.start = start

    def __call__(self, sequence, state=None):
        reached = self.start if state is None else state
        for priority in sequence:
            reached = self.rows[reached][priority]
            if reached is None:
                return None
        return reached


def watcher_of(tree, height, priorities):
    """Return the watcher whose states are the leaves of a full tree."""
    order = DrawnTree(tree, height)
    rows = []
    for leaf in range(order.size):
        rows.append([order.kept(leaf, priority) for priority in range(priorities)])
    return Watcher(priorities, rows, start=order.last)
