"""Points 63 to 67 told once more: objectives to try, and their texts, split trees and automata by the words."""

import itertools

from holdsalltrees.objectives import Objective

COLOURS = "abcde"


def sets_of(colours):
    """All subsets of a colour set, as colour sets."""
    return ["".join(some) for many in range(len(colours) + 1) for some in itertools.combinations(colours, many)]


def objective_of(good, colours):
    """The objective that depends on these colours only, and for which exactly these subsets of them are good."""
    found = Objective.never()
    for some in good:
        joint = Objective.always()
        for colour in colours:
            joint = joint & (Objective.inf(colour) if colour in some else ~Objective.inf(colour))
        found = found | joint
    return found


def all_objectives(colours):
    sets = sets_of(colours)
    for bits in range(2 ** len(sets)):
        yield objective_of([some for place, some in enumerate(sets) if bits >> place & 1], colours)


def drawn_objective(source, colours):
    share = source.choice((0.2, 0.5, 0.8))
    return objective_of([some for some in sets_of(colours) if source.random() < share], colours)


def table(objective):
    """The good sets, which tell everything about an objective."""
    return tuple(some for some in sets_of(COLOURS) if objective.good(some))


def text_by_words(objective):
    """The one form of point 64."""
    sets = sets_of(COLOURS)
    goods = [some for some in sets if objective.good(some)]
    if not goods:
        return "never"
    if len(goods) == len(sets):
        return "always"
    essential = ""
    for colour in COLOURS:
        if any(objective.good(some) != objective.good(some.replace(colour, "")) for some in sets):
            essential += colour
    rows = []
    for many in range(len(essential) + 1):
        for some in sorted("".join(chosen) for chosen in itertools.combinations(essential, many)):
            if objective.good(some):
                rows.append(" and ".join(("inf " if c in some else "not inf ") + c for c in essential))
    return " or ".join(rows)


def split_by_words(objective, label):
    """The split tree, by point 65."""
    wanted = not objective.good(label)
    found = {some for some in sets_of(label) if some and objective.good(some) == wanted}
    greatest = [some for some in found if not any(set(some) < set(other) for other in found)]
    return (label, tuple(split_by_words(objective, some) for some in sorted(greatest)))


def leaves_with_ways(node, way=()):
    """For each leaf of a split tree, from left to right, all nodes on the way from the root to it."""
    way += (node,)
    if not node[1]:
        return [way]
    return [found for child in node[1] for found in leaves_with_ways(child, way)]


def rows_by_words(objective, colours):
    """The rows of the automaton of point 67. Nodes are told apart by their ways."""
    leaves = leaves_with_ways(split_by_words(objective, colours))
    most = max(len(way) for way in leaves) - 1
    if most % 2 != (0 if objective.good(colours) else 1):
        most += 1
    rows = []
    for index, way in enumerate(leaves):
        row = []
        for colour in colours:
            depth = max(k for k, node in enumerate(way) if colour in node[0])
            goal = index
            if depth < len(way) - 1:
                # Two children of one node have different labels.
                children = way[depth][1]
                place = [child[0] for child in children].index(way[depth + 1][0])
                after = children[(place + 1) % len(children)]
                head = [node[0] for node in way[: depth + 1]] + [after[0]]
                goal = [[node[0] for node in other[: depth + 2]] for other in leaves].index(head)
            row.append((goal, most - depth))
        rows.append(tuple(row))
    return tuple(rows)


def given(automaton, lead, ring):
    """The greatest priority that an automaton gives infinitely often, and its parity tells who wins."""
    state = automaton.start
    for colour in lead:
        state = automaton.rows[state][automaton.colours.index(colour)][0]
    seen = {}
    rounds = []
    while state not in seen:
        seen[state] = len(rounds)
        most = -1
        for colour in ring:
            state, priority = automaton.rows[state][automaton.colours.index(colour)]
            most = max(most, priority)
        rounds.append(most)
    return max(rounds[seen[state]:])


def colour_set(word):
    return "".join(sorted(set(word)))
