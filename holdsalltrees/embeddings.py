"""Embeddings of one tree in another one."""

from holdsalltrees.trees import leaf_paths, shared_items, subtree_at
from holdsalltrees.values import as_tuples


def holds(big, small):
    """Tell whether there is an embedding of `small` in `big`."""
    return _images(big, small, ()) is not None


def embedding(big, small):
    """Return the least embedding of `small` in `big`, or None if there is none."""
    images = _images(big, small, ())
    if images is None:
        return None
    return tuple(images)


def _images(big, small, path):
    # A child that goes as far to the left as it can leaves the most room for
    # the children after it, and its leaves get the least paths. So no choice
    # is ever taken back, and each node of `big` is looked at only once.
    if not small:
        return [path]
    found = []
    at = 0
    for child in small:
        below = None
        while below is None:
            if at == len(big):
                return None
            below = _images(big[at], child, path + (at,))
            at += 1
        found.extend(below)
    return found


def is_embedding(big, small, paths):
    """Tell whether the paths are the images of the leaves in an embedding."""
    leaves = leaf_paths(small)
    images = as_tuples(paths)
    if len(images) != len(leaves):
        return False
    for leaf, image in zip(leaves, images):
        if len(image) != len(leaf) or subtree_at(big, image) is None:
            return False
    for index in range(len(leaves) - 1):
        if not _part_alike(leaves, images, index):
            return False
    return True


def _part_alike(leaves, images, index):
    # The images of two neighbours part where the leaves part, in the same order.
    depth = shared_items(leaves[index], leaves[index + 1])
    one = images[index]
    two = images[index + 1]
    return one[:depth] == two[:depth] and one[depth] < two[depth]
