"""Walks in graphs whose steps have labels."""


def walks_from(steps, start):
    """Return a dict with the nodes that can be reached, and for each the labels of some walk from the start.

    The steps of a node are pairs of a label and the next node.
    """
    walks = {start: ()}
    work = [start]
    while work:
        node = work.pop()
        for label, goal in steps[node]:
            if goal not in walks:
                walks[goal] = walks[node] + (label,)
                work.append(goal)
    return walks
