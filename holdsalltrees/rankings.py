"""Rankings, and the plans that they give."""

from holdsalltrees.errors import NotRanking, TooLow


def is_ranking(game, order, ranks):
    """Tell whether the ranks are a ranking of the game in the leaf order."""
    check_height(game, order)
    for vertex, rank in enumerate(ranks):
        if rank is None:
            continue
        row = game.successors[vertex]
        many = len(_allowed(game, order, ranks, vertex))
        if many == 0 or (game.owners[vertex] == 1 and many < len(row)):
            return False
    return True


def check_height(game, order):
    """Raise an error if the leaf order is too low for the game."""
    if order.height < game.height:
        raise TooLow(order.height)


def _allowed(game, order, ranks, vertex):
    # The successors with a rank that the rank of the vertex allows.
    priority = game.priorities[vertex]
    ranked = [goal for goal in game.successors[vertex] if ranks[goal] is not None]
    return [goal for goal in ranked if order.allows(ranks[vertex], priority, ranks[goal])]


def plan_of_ranking(game, order, ranks):
    """Return the plan of player 0 that follows the ranking."""
    if not is_ranking(game, order, ranks):
        raise NotRanking()
    plan = []
    for vertex, rank in enumerate(ranks):
        if rank is None or game.owners[vertex] == 1:
            plan.append(None)
        else:
            plan.append(_allowed(game, order, ranks, vertex)[0])
    return tuple(plan)
