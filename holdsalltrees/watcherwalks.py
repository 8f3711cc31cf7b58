"""The sequences of priorities that a watcher lets through."""

from holdsalltrees.walks import walks_from


def steps_below(watcher, most):
    """Return for each state the steps with priorities less than `most`, each with its priority and the next state."""
    rows = []
    for row in watcher.rows:
        rows.append([(priority, goal) for priority, goal in enumerate(row[:most]) if goal is not None])
    return rows


def watcher_walks(watcher):
    """Return a dict with the states that can be reached, and for each a sequence that leads to it."""
    return walks_from(steps_below(watcher, watcher.priorities), watcher.start)


def lost_sequence(watcher):
    """Return a lead and a ring that player 1 wins and the watcher lets through, or None."""
    leads = watcher_walks(watcher)
    for priority in range(1, watcher.priorities, 2):
        steps = steps_below(watcher, priority + 1)
        for state, lead in leads.items():
            goal = watcher.rows[state][priority]
            if goal is None:
                continue
            back = walks_from(steps, goal)
            if state in back:
                return (lead, (priority,) + back[state])
    return None
