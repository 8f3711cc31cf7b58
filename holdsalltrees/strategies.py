"""Who wins from each vertex of a graph on which two players move, and with which moves.

The graph is written as three sequences, as in a game, but it may be much larger.
"""


def solved(owners, priorities, rows):
    """Return the winners, and for each vertex whose owner wins a winning move (None for the others)."""
    board = Board(owners, priorities, rows)
    everything = list(range(len(board.owners)))
    first, second = board.parted(everything, len(board.levels) - 1)
    winners = [0] * len(everything)
    for vertex in second:
        winners[vertex] = 1
    moves = []
    for vertex, owner in enumerate(board.owners):
        moves.append(board.moves[vertex] if winners[vertex] == owner else None)
    return (tuple(winners), tuple(moves))


def solved_game(game):
    """Return the winners of a game, and for each vertex whose owner wins a winning move (None for the others)."""
    return solved(game.owners, game.priorities, game.successors)


class Board:
    """A graph that is being solved, with the moves that have been found so far."""

    def __init__(self, owners, priorities, rows):
        self.owners = owners
        self.priorities = priorities
        self.rows = rows
        self.origins = origins_of(rows)
        self.levels = sorted(set(self.priorities))
        self.moves = [None] * len(self.rows)

    def parted(self, region, place):
        """Return the parts of a region that player 0 and player 1 win.

        No priority in the region is greater than the one with this place among the levels.
        """
        if not region:
            return ([], [])
        level = self.levels[place]
        player = level % 2
        lost = []
        while True:
            goal = [vertex for vertex in region if self.priorities[vertex] == level]
            near = self.attracted(player, goal, region)
            rest = [vertex for vertex in region if not near[vertex]]
            against = self.parted(rest, place - 1)[1 - player]
            if not against:
                break
            # What the other player wins in the rest is won in the region, too.
            taken = self.attracted(1 - player, against, region)
            lost = lost + [vertex for vertex in region if taken[vertex]]
            region = [vertex for vertex in region if not taken[vertex]]
        self.keep_inside(goal, region)
        return (region, lost) if player == 0 else (lost, region)

    def attracted(self, player, goal, region):
        """Tell for each vertex whether the player can force the goal within the region, and keep the moves."""
        inside = marks_of(region, len(self.rows))
        found = marks_of(goal, len(self.rows))
        left = {}
        work = list(goal)
        while work:
            vertex = work.pop()
            for origin in self.origins[vertex]:
                if not inside[origin] or found[origin]:
                    continue
                if self.owners[origin] == player:
                    self.moves[origin] = vertex
                else:
                    # The other player is forced as soon as no other move is left.
                    if origin not in left:
                        left[origin] = sum([inside[step] for step in self.rows[origin]])
                    left[origin] = left[origin] - 1
                    if left[origin] > 0:
                        continue
                found[origin] = True
                work.append(origin)
        return found

    def keep_inside(self, goal, region):
        """Move from each vertex of the goal to some vertex of the region."""
        inside = marks_of(region, len(self.rows))
        for vertex in goal:
            self.moves[vertex] = [step for step in self.rows[vertex] if inside[step]][0]


def origins_of(rows):
    """Return for each vertex the vertices from which a move leads to it."""
    origins = [[] for _ in rows]
    for vertex, row in enumerate(rows):
        for goal in row:
            origins[goal].append(vertex)
    return origins


def marks_of(vertices, count):
    """Return True for these vertices, and False for all others."""
    marks = [False] * count
    for vertex in vertices:
        marks[vertex] = True
    return marks
