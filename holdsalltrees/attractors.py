"""Attractors, the plans that lead to them, and traps."""


def attractor(game, player, goal, *, within=None):
    """Return the number of moves in which the player can force the goal, or None, for each vertex."""
    moves = _moves_within(game, within)
    numbers = [None] * len(game)
    forced = list(goal)
    count = 0
    while forced:
        for vertex in forced:
            numbers[vertex] = count
        count += 1
        forced = [
            vertex
            for vertex in range(len(game))
            if numbers[vertex] is None and _is_forced(game.owners[vertex] == player, moves[vertex], numbers)
        ]
    return tuple(numbers)


def _moves_within(game, within):
    # The successors that count, for each vertex; none for a vertex that does not count.
    if within is None:
        return game.successors
    inside = set(within)
    rows = []
    for vertex, row in enumerate(game.successors):
        rows.append([goal for goal in row if vertex in inside and goal in inside])
    return rows


def _is_forced(own, row, numbers):
    reached = [goal for goal in row if numbers[goal] is not None]
    if own:
        return len(reached) > 0
    return len(row) > 0 and len(reached) == len(row)


def attractor_plan(game, player, goal, *, within=None):
    """Return the plan that leads to the goal in the least number of moves."""
    numbers = attractor(game, player, goal, within=within)
    moves = _moves_within(game, within)
    plan = []
    for vertex, number in enumerate(numbers):
        if game.owners[vertex] != player or number is None or number == 0:
            plan.append(None)
        else:
            plan.append([step for step in moves[vertex] if numbers[step] == number - 1][0])
    return tuple(plan)


def is_trap(game, player, vertices, *, within=None):
    """Tell whether the player cannot leave the vertex set, inside `within`."""
    moves = _moves_within(game, within)
    inside = set(vertices)
    for vertex in vertices:
        row = moves[vertex]
        staying = [goal for goal in row if goal in inside]
        if game.owners[vertex] == player and len(staying) < len(row):
            return False
        if game.owners[vertex] != player and not staying:
            return False
    return True
