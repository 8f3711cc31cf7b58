"""Points 30 to 54 told once more for small games, by searches through everything there is."""

import itertools
from functools import lru_cache

from holdsalltrees.games import Game


def subsets(items):
    items = tuple(items)
    for many in range(len(items) + 1):
        yield from itertools.combinations(items, many)


def drawn_game(source, vertices, top, most=3):
    """A game that often has few successors and many vertices of one player."""
    share = source.choice((0.2, 0.5, 0.8))
    owners = [int(source.random() < share) for _ in range(vertices)]
    priorities = [source.randint(0, top) for _ in range(vertices)]
    rows = [sorted(source.sample(range(vertices), source.randint(1, min(most, vertices)))) for _ in range(vertices)]
    return Game(owners, priorities, rows)


# Two games in which player 1 makes all moves. In the first one, the vertices 0 to 3 have the
# number 2, since there are two loops, one behind the other; the second one has two copies of it.
TWO_LOOPS = Game([1] * 4, [0, 1, 0, 2], [[0, 1], [2], [2, 3], [0]])
FOUR_LOOPS = Game(
    [1] * 9, [0, 1, 0, 2, 3, 0, 1, 0, 2], [[0, 1], [2], [2, 3], [0, 4], [5], [5, 6], [7], [7, 8], [5]]
)


# Plays and plans


def plays_from(rows, start):
    """All plays that repeat and in which no vertex stands twice."""
    walks = [(start,)]
    while walks:
        walk = walks.pop()
        for step in rows[walk[-1]]:
            if step in walk:
                at = walk.index(step)
                yield walk[:at], walk[at:]
            else:
                walks.append(walk + (step,))


def dominant(game, play):
    return max(game.priorities[vertex] for vertex in play[1])


def rows_under(game, player, plan):
    return [(plan[v],) if game.owners[v] == player else row for v, row in enumerate(game.successors)]


def plans_of(game, player):
    choices = [row if game.owners[v] == player else (None,) for v, row in enumerate(game.successors)]
    return itertools.product(*choices)


def wins(game, player, plan, start):
    """Whether the plan wins from all vertices of the set; it may have None where it is not reached."""
    rows = rows_under(game, player, plan)
    if any(rows[vertex] == (None,) for vertex in reached(rows, start)):
        return False
    return all(dominant(game, play) % 2 == player for vertex in start for play in plays_from(rows, vertex))


def reached(rows, start):
    found = set()
    work = list(start)
    while work:
        vertex = work.pop()
        if vertex not in found and vertex is not None:
            found.add(vertex)
            work.extend(rows[vertex])
    return found


def winners_by_plans(game):
    """The player who has a plan that wins, for each vertex."""
    answer = [None] * len(game)
    for player in (0, 1):
        for plan in plans_of(game, player):
            rows = rows_under(game, player, plan)
            for vertex in range(len(game)):
                if answer[vertex] is None:
                    if all(dominant(game, play) % 2 == player for play in plays_from(rows, vertex)):
                        answer[vertex] = player
    return tuple(answer)


def cycle_from(rows, labels, start, parity):
    """Whether a cycle with a greatest label of this parity can be reached; for larger graphs."""
    found = reached(rows, start)
    for label in {labels[v] for v in found if labels[v] % 2 == parity}:
        low = {v: [u for u in rows[v] if labels[u] <= label] for v in found}
        for first in found:
            if labels[first] == label and first in reached(low, low[first]):
                return True
    return False


# Rankings


def is_ranking_by_words(game, order, ranks):
    for v, rank in enumerate(ranks):
        if rank is None:
            continue
        fine = [
            ranks[u] is not None and order.allows(rank, game.priorities[v], ranks[u]) for u in game.successors[v]
        ]
        if not (any(fine) if game.owners[v] == 0 else all(fine)):
            return False
    return True


def all_rankings(game, order, values):
    for ranks in itertools.product(list(values) + [None], repeat=len(game)):
        if is_ranking_by_words(game, order, ranks):
            yield ranks


# Decompositions


def force(game, player, goal, within):
    """The attractor as a set."""
    found = set(goal)
    while True:
        more = set()
        for v in set(within) - found:
            hits = [u in found for u in game.successors[v] if u in within]
            if hits and (any(hits) if game.owners[v] == player else all(hits)):
                more.add(v)
        if not more:
            return frozenset(found)
        found |= more


def trapped(game, player, vertices, within):
    for v in vertices:
        stays = [u in vertices for u in game.successors[v] if u in within]
        if not (all(stays) if game.owners[v] == player else any(stays)):
            return False
    return True


def traps(game):
    everything = range(len(game))
    return [frozenset(x) for x in subsets(everything) if trapped(game, 1, x, everything)]


def top_of(game, vertices, level):
    """The top, or None if a priority is too great."""
    if any(game.priorities[v] > 2 * level for v in vertices):
        return None
    return force(game, 0, [v for v in vertices if game.priorities[v] == 2 * level], vertices)


def row(vertices):
    return tuple(sorted(vertices))


def parts_in(game, rest):
    """All sets that may be a part of the rest, with what they pull and what remains."""
    for chosen in subsets(sorted(rest)):
        part = frozenset(chosen)
        if part and trapped(game, 1, part, rest):
            near = force(game, 0, part, rest)
            yield part, near - part, rest - near


def papers_of(game, vertices, level):
    """All decompositions of the set at the level 2 * level."""
    top = top_of(game, vertices, level)
    if top is None or (level == 0 and top != vertices):
        return []
    return [(row(top), parts) for parts in part_rows(game, vertices - top, level)]


def part_rows(game, rest, level):
    if not rest:
        return [()]
    found = []
    for part, pulled, left in parts_in(game, rest):
        papers = papers_of(game, part, level - 1)
        others = part_rows(game, left, level) if papers else []
        found.extend(((paper, row(pulled)),) + more for paper in papers for more in others)
    return found


def all_papers(game):
    return [paper for vertices in traps(game) for paper in papers_of(game, vertices, game.height)]


def trees_by_sets(game):
    """The trees of all decompositions of the game, for each set that has one."""

    @lru_cache(None)
    def trees(vertices, level):
        top = top_of(game, vertices, level)
        if top is None or (level == 0 and top != vertices):
            return frozenset()
        return rest_trees(vertices - top, level)

    @lru_cache(None)
    def rest_trees(rest, level):
        if not rest:
            return frozenset([()])
        found = set()
        for part, _, left in parts_in(game, rest):
            for tree in trees(part, level - 1):
                found.update((tree,) + more for more in rest_trees(left, level))
        return frozenset(found)

    return {vertices: trees(vertices, game.height) for vertices in traps(game)}


# Register games


def rows_of_registers(values, registers):
    return itertools.combinations_with_replacement(values, registers)


def options(game, vertex, numbers):
    """What player 0 may choose at a position: (which, row after step 2, signal), the signal None if it loses."""
    priority = game.priorities[vertex]
    numbers = [max(number, priority) for number in numbers]
    found = [(0, tuple(numbers), 1)]
    for which in range(1, len(numbers) + 1):
        value = numbers[which - 1]
        after = (priority,) + tuple(number for at, number in enumerate(numbers, 1) if at != which)
        told = 2 * which if value % 2 == 0 else 2 * which + 1
        if which == len(numbers) and value % 2 == 1:
            told = None
        found.append((which, after, told))
    return found


def won_positions(game, positions):
    """The positions among these, and those that can follow, that player 0 wins: by splitting the graph."""
    graph = {}
    work = [("at", position) for position in positions]
    while work:
        node = work.pop()
        if node in graph:
            continue
        if node[0] == "at":
            v, numbers = node[1]
            steps = [("to", v, after, told) for _, after, told in options(game, v, numbers) if told is not None]
            graph[node] = (0, 0, steps)
        else:
            _, v, after, told = node
            graph[node] = (game.owners[v], told, [("at", (u, after)) for u in game.successors[v]])
        work.extend(graph[node][2])
    origins = {node: [] for node in graph}
    for node, (_, _, steps) in graph.items():
        for step in steps:
            origins[step].append(node)
    return {node[1] for node in split(graph, origins, set(graph))[0] if node[0] == "at"}


def split(graph, origins, nodes):
    if not nodes:
        return set(), set()
    most = max(graph[node][1] for node in nodes)
    player = most % 2
    near = pull(graph, origins, nodes, player, {node for node in nodes if graph[node][1] == most})
    parts = split(graph, origins, nodes - near)
    if not parts[1 - player]:
        return (nodes, set()) if player == 0 else (set(), nodes)
    taken = pull(graph, origins, nodes, 1 - player, parts[1 - player])
    parts = split(graph, origins, nodes - taken)
    parts[1 - player].update(taken)
    return parts


def pull(graph, origins, nodes, player, goal):
    found = set(goal)
    work = list(goal)
    while work:
        for node in origins[work.pop()]:
            if node in nodes and node not in found:
                owner, _, steps = graph[node]
                if owner == player or all(step in found for step in steps if step in nodes):
                    found.add(node)
                    work.append(node)
    return found


def plan_faults(game, registers, vertices, plan):
    """Whether a register plan is wrong, by the words of point 51."""
    places = [place for place, _ in plan]
    if len(set(places)) < len(places):
        return True
    table = dict(plan)
    start = [(v, (game.ceiling,) * registers) for v in vertices]
    names, rows, labels = {}, [], []
    work = list(start)
    while work:
        place = work.pop()
        if place in names:
            continue
        if place not in table:
            return True
        v, numbers = place
        which, step = table[place]
        if which not in range(registers + 1):
            return True
        if step not in (game.successors[v] if game.owners[v] == 0 else [None]):
            return True
        _, after, told = options(game, v, numbers)[which]
        if told is None:
            return True
        steps = [(u, after) for u in (game.successors[v] if step is None else [step])]
        names[place] = len(names)
        labels.append(told)
        rows.append(steps)
        work.extend(steps)
    rows = [[names[step] for step in steps] for steps in rows]
    return cycle_from(rows, labels, [names[place] for place in start], 1)


def answer_faults(game, registers, vertices, answer):
    """Whether a register answer is wrong, by the words of point 51."""
    places = [place for place, _ in answer]
    if len(set(places)) < len(places):
        return True
    table = dict(answer)
    start = [(v, (game.ceiling,) * registers) for v in vertices]
    names, rows, labels = {}, [], []
    work = [(place, 0) for place in start]
    for node in work:
        if node in names:
            continue
        names[node] = len(names)
        (v, numbers), label = node
        steps = []
        for _, after, told in options(game, v, numbers):
            if told is None:
                continue
            goals = game.successors[v]
            if game.owners[v] == 1:
                if table.get((v, after)) not in goals:
                    return True
                goals = [table[(v, after)]]
            steps.extend(((u, after), told) for u in goals)
        labels.append(label)
        rows.append(steps)
        work.extend(steps)
    rows = [[names[step] for step in steps] for steps in rows]
    # Each step into a node carries the signal of the round before it; only the first ones have none.
    return cycle_with(rows, labels, 0)


def cycle_with(rows, labels, parity):
    for first, label in enumerate(labels):
        if label > 0 and label % 2 == parity:
            low = {v: [u for u in steps if 0 < labels[u] <= label] for v, steps in enumerate(rows)}
            if first in reached(low, low[first]):
                return True
    return False
