"""What runs when a property is read or an operator is used, as far as names tell.

A package is given as a dict with the syntax tree of each of its files.
"""

import ast

# The other methods between double underscores are operators, or are bound to the same rules.
NO_OPERATORS = ("__init__", "__enter__", "__exit__", "__call__", "__iter__")


def stored_names(trees):
    """The names of the attributes and class values that the classes of the package store."""
    names = set()
    for tree in trees.values():
        for node in ast.walk(tree):
            if isinstance(node, ast.Attribute) and isinstance(node.ctx, ast.Store):
                names.add(node.attr)
            elif isinstance(node, ast.ClassDef):
                assigns = [part for part in node.body if isinstance(part, ast.Assign)]
                names |= {target.id for part in assigns for target in part.targets}
    return names


def methods_of(trees):
    """For each method of the package its file, its class and the method."""
    for name, tree in trees.items():
        for kind in tree.body:
            if isinstance(kind, ast.ClassDef):
                for part in kind.body:
                    if isinstance(part, ast.FunctionDef):
                        yield name, kind, part


def is_first(method):
    """Whether the method is read as a property or used as an operator."""
    if any(isinstance(mark, ast.Name) and mark.id == "property" for mark in method.decorator_list):
        return True
    return method.name.startswith("__") and method.name not in NO_OPERATORS


def named(trees, name, word):
    """The file and the node of what a name at module level stands for, or None."""
    for node in trees[name].body:
        if isinstance(node, (ast.FunctionDef, ast.ClassDef)) and node.name == word:
            return name, node
        if isinstance(node, ast.Assign) and node.targets[0].id == word:
            return name, node
        if isinstance(node, ast.ImportFrom) and word in [alias.name for alias in node.names]:
            file = node.module.split(".")[-1] + ".py"
            return named(trees, file, word) if file in trees else None
    return None


def led_to(trees, name, kind, node):
    """What a node may call or read: each time its file, its class or None, and a function or a module-level value."""
    for inner in ast.walk(node):
        if isinstance(inner, ast.Attribute):
            # It is not known of which class the object is.
            yield from [place for place in methods_of(trees) if place[2].name == inner.attr]
        elif isinstance(inner, ast.Name):
            found = (name, kind) if kind is not None and inner.id == "cls" else named(trees, name, inner.id)
            if found is None:
                continue
            if isinstance(found[1], ast.ClassDef):
                yield from begun_by(trees, *found)
            else:
                yield found[0], None, found[1]


def begun_by(trees, name, kind):
    """What runs when an object of the class is made: the methods `__init__` of the class and of those above it."""
    for part in kind.body:
        if isinstance(part, ast.FunctionDef) and part.name == "__init__":
            yield name, kind, part
    for base in kind.bases:
        found = named(trees, name, base.id)
        if found is not None:
            yield from begun_by(trees, *found)


def run_by_operators(trees):
    """All that properties and operators run, through any number of calls, in pairs of a file and a node."""
    work = [place for place in methods_of(trees) if is_first(place[2])]
    seen = set()
    while work:
        name, kind, node = work.pop()
        if node not in seen:
            seen.add(node)
            yield name, node
            work.extend(led_to(trees, name, kind, node))


def stored_calls(trees):
    """The places at which what a property or an operator runs calls a method with the name of a stored attribute."""
    stored = stored_names(trees)
    found = set()
    for name, node in run_by_operators(trees):
        for call in ast.walk(node):
            if isinstance(call, ast.Call) and isinstance(call.func, ast.Attribute) and call.func.attr in stored:
                found.add((name, call.lineno, call.func.attr))
    return sorted(found)
