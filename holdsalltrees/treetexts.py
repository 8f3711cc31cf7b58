"""Trees as texts of brackets."""

from holdsalltrees.errors import BadTree


def tree_text(tree):
    """Return the text of the tree."""
    return "(" + "".join([tree_text(child) for child in tree]) + ")"


def read_tree(text):
    """Return the tree with this text."""
    tree = None
    # The children so far of each node whose bracket is open.
    unclosed = []
    for index, sign in enumerate(text):
        if tree is not None:
            raise BadTree(index)
        if sign == "(":
            unclosed.append([])
        elif sign == ")" and unclosed:
            node = tuple(unclosed.pop())
            if unclosed:
                unclosed[-1].append(node)
            else:
                tree = node
        else:
            raise BadTree(index)
    if tree is None:
        raise BadTree(len(text))
    return tree
