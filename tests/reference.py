"""Universal trees as points 14 to 16 define them: built with their words, and counted leaf by leaf."""

from functools import lru_cache


def plain(leaves, height, branching):
    if branching is not None and (leaves < 2 ** branching or height < branching):
        return None
    return branching


def halving(many, height, branching):
    """The halving row: pairs of a word and a built tree."""
    if many == 0:
        return []
    before = halving(many // 2, height, branching)
    after = halving((many + 1) // 2 - 1, height, branching)
    middle = built(many, height, branching)
    return [("0" + word, tree) for word, tree in before] + [("", middle)] + [("1" + word, tree) for word, tree in after]


def built(leaves, height, branching):
    """The universal tree: the list of its children with their words."""
    if height == 0:
        return []
    branching = plain(leaves, height, branching)
    if branching is None:
        return halving(leaves, height - 1, None)
    if branching == 1:
        return [("", built(leaves, height - 1, 1))]
    row = halving(leaves - 1, height - 1, branching - 1)
    heavy = built(leaves, height - 1, branching)
    return [("0" + word, tree) for word, tree in row] + [("", heavy)] + [("1" + word, tree) for word, tree in row]


def shape(tree):
    return tuple(shape(child) for _, child in tree)


def codes_of(tree):
    if not tree:
        return [()]
    return [(word,) + code for word, child in tree for code in codes_of(child)]


@lru_cache(None)
def row_count(many, height, branching):
    if many == 0:
        return 0
    before = row_count(many // 2, height, branching)
    return before + count(many, height, branching) + row_count((many + 1) // 2 - 1, height, branching)


@lru_cache(None)
def count(leaves, height, branching):
    """The number of leaves."""
    if height == 0:
        return 1
    branching = plain(leaves, height, branching)
    if branching is None:
        return row_count(leaves, height - 1, None)
    if branching == 1:
        return count(leaves, height - 1, 1)
    return 2 * row_count(leaves - 1, height - 1, branching - 1) + count(leaves, height - 1, branching)


def in_row(many, height, branching, word):
    """The number of leaves before the tree with this word in a halving row, and its parameters."""
    if many == 0:
        raise LookupError(word)
    before = row_count(many // 2, height, branching)
    if word == "":
        return before, (many, height, branching)
    if word[0] == "0":
        return in_row(many // 2, height, branching, word[1:])
    if word[0] != "1":
        raise LookupError(word)
    start, child = in_row((many + 1) // 2 - 1, height, branching, word[1:])
    return before + count(many, height, branching) + start, child


def in_node(leaves, height, branching, word):
    """The number of leaves before the child with this word, and its parameters."""
    branching = plain(leaves, height, branching)
    if branching is None:
        return in_row(leaves, height - 1, None, word)
    heavy = (leaves, height - 1, branching)
    side = 0 if branching == 1 else row_count(leaves - 1, height - 1, branching - 1)
    if word == "":
        return side, heavy
    if branching == 1 or word[0] not in "01":
        raise LookupError(word)
    start, child = in_row(leaves - 1, height - 1, branching - 1, word[1:])
    if word[0] == "0":
        return start, child
    return side + count(*heavy) + start, child


def span(leaves, height, branching, head):
    """The index of the first leaf with this head, and of the first one after all of them."""
    start = 0
    node = (leaves, height, branching)
    if len(head) > height:
        raise LookupError(head)
    for word in head:
        before, node = in_node(*node, word)
        start += before
    return start, start + count(*node)


def is_leaf(leaves, height, branching, code):
    try:
        span(leaves, height, branching, code)
    except LookupError:
        return False
    return len(code) == height


def code_at(leaves, height, branching, index):
    """The code of the leaf with this index."""
    code = ()
    node = (leaves, height, branching)
    while node[1] > 0:
        word, index, node = found_in_node(*node, index)
        code += (word,)
    return code


def found_in_node(leaves, height, branching, index):
    branching = plain(leaves, height, branching)
    if branching is None:
        return found_in_row(leaves, height - 1, None, index)
    heavy = (leaves, height - 1, branching)
    if branching == 1:
        return "", index, heavy
    side = row_count(leaves - 1, height - 1, branching - 1)
    if side <= index < side + count(*heavy):
        return "", index - side, heavy
    letter = "0" if index < side else "1"
    rest = index if index < side else index - side - count(*heavy)
    word, rest, child = found_in_row(leaves - 1, height - 1, branching - 1, rest)
    return letter + word, rest, child


def found_in_row(many, height, branching, index):
    before = row_count(many // 2, height, branching)
    middle = count(many, height, branching)
    if index < before:
        word, rest, child = found_in_row(many // 2, height, branching, index)
        return "0" + word, rest, child
    if index < before + middle:
        return "", index - before, (many, height, branching)
    word, rest, child = found_in_row((many + 1) // 2 - 1, height, branching, index - before - middle)
    return "1" + word, rest, child
