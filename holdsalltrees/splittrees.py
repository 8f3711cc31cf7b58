"""Split trees: how far an objective changes its mind about ever smaller colour sets."""

from holdsalltrees.objectives import colour_sets


def split_tree(objective, colours):
    """Return the root of the split tree of the objective for these colours."""
    good = objective.good(colours)
    labels = []
    # Greater sets come first here, so that no label is found before one that contains it.
    for some in reversed(colour_sets(colours)):
        if some != "" and objective.good(some) != good and not _is_contained(some, labels):
            labels.append(some)
    return (colours, tuple([split_tree(objective, label) for label in sorted(labels)]))


def _is_contained(some, labels):
    return any([all([colour in label for colour in some]) for label in labels])
