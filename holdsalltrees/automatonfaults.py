"""Why an automaton is not right for an objective, and states that a right one needs."""

from holdsalltrees.automata import GREATEST_GIVEN
from holdsalltrees.errors import WrongAutomaton
from holdsalltrees.objectives import colour_sets
from holdsalltrees.splittrees import split_tree
from holdsalltrees.walks import walks_from


def automaton_fault(automaton, objective):
    """Return a lead and a ring of colours that the automaton judges wrongly, or None."""
    leads = walks_from(_steps_below(automaton, automaton.colours, GREATEST_GIVEN + 1), automaton.start)
    for colours in colour_sets(automaton.colours):
        if colours == "":
            continue
        # A ring with these colours is judged wrongly if its greatest priority is one of these.
        first = 1 if objective.good(colours) else 0
        for priority in range(first, GREATEST_GIVEN + 1, 2):
            found = _ring_with(automaton, leads, colours, priority)
            if found is not None:
                state, ring = found
                return ("".join(leads[state]), "".join(ring))
    return None


def _steps_below(automaton, colours, most):
    # For each state the steps with these colours and with priorities less than `most`.
    rows = []
    for row in automaton.rows:
        steps = [(colour, item) for colour, item in zip(automaton.colours, row) if colour in colours]
        rows.append([(colour, item[0]) for colour, item in steps if item[1] < most])
    return rows


def _ring_with(automaton, states, colours, priority):
    # One of the states, and a way from it back to it with exactly these colours and this
    # greatest priority; or None.
    steps = _steps_below(automaton, colours, priority + 1)
    low = _steps_below(automaton, colours, priority)
    walks = {state: walks_from(steps, state) for state in states}
    for state in states:
        # The state itself is where the greatest priority is given.
        for step in steps[state]:
            colour, goal = step
            if step not in low[state] and state in walks[goal]:
                ring = _with_all_colours(steps, walks, state, colours, (colour,) + walks[goal][state])
                if ring is not None:
                    return (state, ring)
    return None


def _with_all_colours(steps, walks, state, colours, ring):
    # The ring at the state, made longer until it has all colours; or None if it cannot have them.
    for colour in colours:
        if colour in ring:
            continue
        detours = []
        for place, walk in walks[state].items():
            goals = [goal for label, goal in steps[place] if label == colour]
            detours.extend([walk + (colour,) + walks[goal][state] for goal in goals if state in walks[goal]])
        if not detours:
            return None
        ring = ring + detours[0]
    return ring


def separate_states(automaton, objective):
    """Return different states, one for each leaf of the split tree, that show how many states are needed."""
    if automaton_fault(automaton, objective) is not None:
        raise WrongAutomaton()
    root = split_tree(objective, automaton.colours)
    return tuple(_states_below(automaton, root, automaton.start))


def _states_below(automaton, node, start):
    # A state from which least is reached by the colours of the label is in a closed set. The
    # closed sets of two children cannot meet: there, rings with the colours of either child
    # could be joined to one that is judged wrongly, since a child's label is as great as it can be.
    label, children = node
    steps = _steps_below(automaton, label, GREATEST_GIVEN + 1)
    reached = sorted(list(walks_from(steps, start)))
    least = min([(len(walks_from(steps, state)), state) for state in reached])[1]
    if not children:
        return [least]
    found = []
    for child in children:
        found.extend(_states_below(automaton, child, least))
    return found
