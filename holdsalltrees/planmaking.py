"""The register plan that follows from a decomposition."""

from holdsalltrees.branchings import branching_number
from holdsalltrees.decompositions import check_decomposition, steps_of, tree_of, vertices_of
from holdsalltrees.registergames import in_order
from holdsalltrees.registers import emptied, raised, start_row


def register_plan(game, decomposition):
    """Return the register plan of the decomposition, with as many registers as its branching number."""
    paper = check_decomposition(game, decomposition)
    steps = steps_of(game, paper, game.height)
    row = start_row(game, branching_number(tree_of(paper)))
    entries = {}
    work = [(vertex, row) for vertex in vertices_of(paper)]
    while work:
        place = work.pop()
        if place in entries:
            continue
        vertex, row = place
        number, step = steps[vertex]
        priority = game.priorities[vertex]
        after = raised(row, priority)
        which = _register_to_empty(after, number)
        if which > 0:
            after = emptied(after, which, priority)[1]
        entries[place] = (which, step)
        goals = game.successors[vertex] if step is None else [step]
        work.extend([(goal, after) for goal in goals])
    return in_order(entries)


def _register_to_empty(row, number):
    # The eldest of the first registers that is odd, or else the last one of them; for none, this is 0.
    odd = [which for which in range(1, number + 1) if row[which - 1] % 2 == 1]
    return odd[-1] if odd else number
