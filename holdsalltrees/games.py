"""Parity games."""

from holdsalltrees.errors import BadVertex, DeadEnd
from holdsalltrees.values import as_tuples, is_number_to, is_whole

GREATEST_PRIORITY = 30


class Game:
    """A game with an owner, a priority and successors for each vertex."""

    def __init__(self, owners, priorities, successors):
        for vertex in range(len(owners)):
            if not (
                is_number_to(owners[vertex], 1)
                and is_number_to(priorities[vertex], GREATEST_PRIORITY)
                and are_successors(successors[vertex], len(owners))
            ):
                raise BadVertex(vertex)
        self.owners = tuple(owners)
        self.priorities = tuple(priorities)
        self.successors = as_tuples(successors)
        self.top = max(self.priorities, default=0)
        self.height = (self.top + 1) // 2
        self.ceiling = self.top + 2 - self.top % 2

    def __len__(self):
        return len(self.owners)

    def __eq__(self, other):
        return (
            isinstance(other, Game)
            and self.owners == other.owners
            and self.priorities == other.priorities
            and self.successors == other.successors
        )

    def turned(self):
        """Return the game in which the players have changed their parts."""
        owners = [1 - owner for owner in self.owners]
        priorities = [priority + 1 for priority in self.priorities]
        return Game(owners, priorities, self.successors)

    def restricted(self, vertices):
        """Return the game with these vertices only, renumbered."""
        numbers = {vertex: number for number, vertex in enumerate(vertices)}
        rows = []
        for vertex in vertices:
            row = [numbers[goal] for goal in self.successors[vertex] if goal in numbers]
            if not row:
                raise DeadEnd(vertex)
            rows.append(row)
        owners = [self.owners[vertex] for vertex in vertices]
        priorities = [self.priorities[vertex] for vertex in vertices]
        return Game(owners, priorities, rows)


def are_successors(value, count):
    """Tell whether the value, of any kind, can be the successors of one of `count` vertices."""
    if not isinstance(value, (list, tuple)):
        return False
    least = 0
    for item in value:
        if not is_whole(item) or not least <= item < count:
            return False
        least = item + 1
    return len(value) > 0
