"""The shape of universal trees, which are too large to be built.

A node is written as the parameters `(leaves, height, branching)` of its
universal tree, in their plainest form. A halving row is written as
`(many, height, branching)`, with the height and the branching of its trees.
The children of a node, and the trees of a row, are searched as a binary tree:
their parts are `(before, after, child)`, the rows on both sides and the node
between them, so that `parts[side]` is what the letter `str(side)` of a word
leads to, for the sides 0 and 1.
"""


def plain_node(leaves, height, branching):
    """Return the node of U(leaves, height, branching)."""
    if branching is not None and (leaves < 1 << branching or height < branching):
        return (leaves, height, None)
    return (leaves, height, branching)


def parts_of_row(row):
    """Return the parts of a halving row, or None if it is empty."""
    many, height, branching = row
    if many == 0:
        return None
    before = (many // 2, height, branching)
    after = ((many + 1) // 2 - 1, height, branching)
    return (before, after, plain_node(many, height, branching))


def parts_of_node(node):
    """Return the parts of the children of a node that is not a leaf."""
    leaves, height, branching = node
    if branching is None:
        return parts_of_row((leaves, height - 1, None))
    # With the branching 1 there is only one child, and no row beside it.
    many = 0 if branching == 1 else leaves - 1
    beside = (many, height - 1, branching - 1)
    return (beside, beside, plain_node(leaves, height - 1, branching))


def parts_at(node, word):
    """Return the parts around the child with this word, or None if there is no such child."""
    parts = parts_of_node(node)
    for letter in word:
        if parts is None or letter not in ("0", "1"):
            return None
        parts = parts_of_row(parts[int(letter)])
    return parts


def is_code(root, value):
    """Tell whether the value is the code of a leaf of the tree with this root."""
    if not isinstance(value, (list, tuple)) or len(value) != root[1]:
        return False
    node = root
    for word in value:
        parts = parts_at(node, word) if isinstance(word, str) else None
        if parts is None:
            return False
        node = parts[2]
    return True


def nodes_along(root, head):
    """Return the nodes on the way that the words of a head lead, the root and the last one included."""
    nodes = [root]
    for word in head:
        nodes.append(parts_at(nodes[-1], word)[2])
    return nodes


def end_of_parts(parts, side):
    """Return the word and the node of the last child on this side of the parts."""
    word = ""
    further = parts_of_row(parts[side])
    while further is not None:
        word = word + str(side)
        parts = further
        further = parts_of_row(parts[side])
    return (word, parts[2])


def end_code(node, side):
    """Return the words that lead from a node to its last leaf on this side."""
    words = []
    while node[1] > 0:
        word, node = end_of_parts(parts_of_node(node), side)
        words.append(word)
    return tuple(words)


def word_beside(node, word, side):
    """Return the word of the next child on this side of a child, or None if there is none."""
    further = parts_of_row(parts_at(node, word)[side])
    if further is not None:
        return word + str(side) + end_of_parts(further, 1 - side)[0]
    # The next child is the one at which the word turns to the other side for the last time.
    turn = word.rfind(str(1 - side))
    if turn < 0:
        return None
    return word[:turn]


def code_beside(root, head, side):
    """Return the code of the next leaf on this side of all leaves with a head, or None."""
    nodes = nodes_along(root, head)
    for depth in reversed(range(len(head))):
        word = word_beside(nodes[depth], head[depth], side)
        if word is not None:
            child = parts_at(nodes[depth], word)[2]
            return head[:depth] + (word,) + end_code(child, 1 - side)
    return None


def word_before(one, two):
    """Tell whether the first word comes before the second one."""
    return _place_of(one) < _place_of(two)


def head_before(one, two):
    """Tell whether the first head or code comes before the second one."""
    return [_place_of(word) for word in one] < [_place_of(word) for word in two]


def _place_of(word):
    # The end of a word stands between the two letters.
    return [2 * int(letter) for letter in word] + [1]
