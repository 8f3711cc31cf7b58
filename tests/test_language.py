"""The rules for the code of the package, as far as a short look at the files can tell."""

import ast
import builtins
import os
import re
import unittest

from tests.running import run_by_operators, stored_calls

FOLDER = os.path.join(os.path.dirname(os.path.dirname(os.path.abspath(__file__))), "holdsalltrees")
BUILTINS = set(
    "len range enumerate zip min max sum abs sorted reversed int str bool list tuple dict set isinstance ord repr any "
    "all divmod iter property classmethod ValueError TypeError KeyError IndexError NotImplemented".split()
)
METHODS = set(
    "append clear copy count endswith extend find get index insert isalnum isalpha isdigit islower isspace isupper "
    "items join keys ljust lower lstrip partition pop remove replace reverse rfind rjust rpartition rsplit rstrip "
    "setdefault split splitlines startswith strip update upper values zfill bit_length add discard".split()
)
CHANGING = ("append", "clear", "extend", "insert", "pop", "remove", "reverse", "setdefault", "update", "add", "discard")
BARRED = ("mro", "elements", "open", "input", "law", "register", "type", "id", "help", "eval", "exec", "vars", "dir")
AT_THE_TOP = (ast.ImportFrom, ast.FunctionDef, ast.ClassDef, ast.Assign)
NOT_ALLOWED = (
    ast.GeneratorExp, ast.AnnAssign, ast.Global, ast.AsyncFunctionDef, ast.Await, ast.Div, ast.MatMult
)


def files():
    for name in sorted(os.listdir(FOLDER)):
        if name != "__pycache__":
            with open(os.path.join(FOLDER, name), "rb") as file:
                yield name, file.read()


def bound_names(tree):
    """The names that are assigned, or are parameters or functions that are no methods, with their nodes."""
    methods = [part for node in ast.walk(tree) if isinstance(node, ast.ClassDef) for part in node.body]
    for node in ast.walk(tree):
        if isinstance(node, ast.Name) and isinstance(node.ctx, ast.Store):
            yield node.id, node
        elif isinstance(node, ast.arg):
            yield node.arg, node
        elif isinstance(node, ast.FunctionDef) and node not in methods:
            yield node.name, node


class LanguageTests(unittest.TestCase):
    def setUp(self):
        self.trees = {name: ast.parse(data) for name, data in files()}

    def walk(self):
        for name, tree in self.trees.items():
            for node in ast.walk(tree):
                yield f"{name}:{getattr(node, 'lineno', 0)}", node

    def test_files_and_lines(self):
        for name, data in files():
            self.assertRegex(name, r"^[a-z0-9_]+\.py$")
            self.assertTrue(all(32 <= sign <= 126 or sign == 10 for sign in data), name)
            lines = data.decode("ascii").split("\n")
            self.assertLessEqual(len(lines), 399, name)
            self.assertLessEqual(max(len(line) for line in lines), 120, name)

    def test_functions_are_short_and_plain(self):
        for place, node in self.walk():
            if isinstance(node, ast.FunctionDef):
                self.assertLessEqual(node.end_lineno - node.lineno + 1, 40, place)
                names = [decorator.id for decorator in node.decorator_list]
                self.assertIn(names, ([], ["property"], ["classmethod"]), place)
            self.assertNotIsInstance(node, NOT_ALLOWED, place)
            if isinstance(node, ast.Constant):
                self.assertNotIsInstance(node.value, float, place)
            if isinstance(node, ast.BinOp) and isinstance(node.op, ast.Pow):
                self.assertIsInstance(node.right, ast.Constant, place)

    def test_module_level(self):
        for name, tree in self.trees.items():
            for node in tree.body[1:]:
                self.assertIsInstance(node, AT_THE_TOP, name)
            self.assertIsNotNone(ast.get_docstring(tree), name)

    def test_imports(self):
        for place, node in self.walk():
            self.assertNotIsInstance(node, ast.Import, place)
            if isinstance(node, ast.ImportFrom):
                names = [alias.name for alias in node.names]
                self.assertEqual([alias.asname for alias in node.names], [None] * len(names), place)
                if node.module == "math":
                    self.assertEqual(names, ["comb"], place)
                    continue
                folder, file = node.module.split(".")
                self.assertEqual(folder, "holdsalltrees", place)
                defined = [item.name for item in self.trees[file + ".py"].body if hasattr(item, "name")]
                defined += [item.targets[0].id for item in self.trees[file + ".py"].body if isinstance(item, ast.Assign)]
                self.assertLessEqual(set(names), set(defined), place)

    def test_no_imports_in_a_ring(self):
        needs = {}
        for name, tree in self.trees.items():
            modules = [node.module for node in tree.body if isinstance(node, ast.ImportFrom)]
            needs[name] = [module.split(".")[1] + ".py" for module in modules if "." in module]
        while needs:
            free = [name for name, others in needs.items() if not set(others) & set(needs)]
            self.assertTrue(free, needs)
            for name in free:
                del needs[name]

    def test_names(self):
        for name, tree in self.trees.items():
            taken = set()
            for node in tree.body:
                if isinstance(node, ast.ImportFrom):
                    taken |= {alias.name for alias in node.names}
                if isinstance(node, ast.ClassDef):
                    taken.add(node.name)
            for bound, node in bound_names(tree):
                self.assertNotIn(bound, taken, f"{name}:{node.lineno}")
                if not bound.startswith("__"):
                    self.assertFalse(hasattr(builtins, bound), f"{name}:{node.lineno} {bound}")
                self.assertRegex(bound, "^_?[A-Za-z][A-Za-z0-9_]*$|^__[a-z]+__$|^_$")

    def test_calls(self):
        own = {node.name for _, node in self.walk() if isinstance(node, ast.FunctionDef)}
        for place, node in self.walk():
            if isinstance(node, ast.Call) and isinstance(node.func, ast.Attribute):
                self.assertIn(node.func.attr, METHODS | own, place)
            if isinstance(node, ast.Name) and hasattr(builtins, node.id):
                self.assertIn(node.id, BUILTINS, place)

    def test_strings(self):
        for place, node in self.walk():
            if isinstance(node, ast.Constant) and isinstance(node.value, str):
                self.assertNotIn("%", node.value, place)
                self.assertIsNone(re.match("^__.*__$", node.value), place)

    def test_equality_asks_for_the_class_first(self):
        for place, node in self.walk():
            if isinstance(node, ast.FunctionDef) and node.name == "__eq__":
                first = node.body[0]
                self.assertIsInstance(first, ast.Return, place)
                self.assertEqual(ast.unparse(first.value.values[0].func), "isinstance", place)

    def test_words_that_bind_no_more_names(self):
        for place, node in self.walk():
            if isinstance(node, (ast.Assign, ast.For, ast.comprehension)):
                for name in ast.walk(node):
                    if isinstance(name, ast.Name) and isinstance(name.ctx, ast.Store):
                        self.assertNotIn(name.id, BARRED, place)

    def test_nothing_changes_what_it_iterates_over(self):
        for place, node in self.walk():
            if not isinstance(node, ast.For):
                continue
            over = {name.id for name in ast.walk(node.iter) if isinstance(name, ast.Name)}
            for inner in node.body:
                for call in ast.walk(inner):
                    if isinstance(call, ast.Call) and isinstance(call.func, ast.Attribute):
                        if call.func.attr in CHANGING and isinstance(call.func.value, ast.Name):
                            self.assertNotIn(call.func.value.id, over, place)

    def test_operators_and_properties_call_nothing_with_the_name_of_an_attribute(self):
        self.assertEqual(stored_calls(self.trees), [])

    def test_what_operators_and_properties_run(self):
        run = {(name, getattr(node, "name", "")) for name, node in run_by_operators(self.trees)}
        for name, words in (
            ("objectives.py", ["essential", "_depends", "inf_table", "_place_of", "__and__", "__init__", "__eq__"]),
            ("halvings.py", ["is_code", "parts_at", "parts_of_node", "parts_of_row", "plain_node"]),
            ("universals.py", ["__contains__"]),
            ("games.py", ["__len__", "__eq__"]),
        ):
            self.assertLessEqual({(name, word) for word in words}, run)
        self.assertNotIn(("plays.py", "replay"), run)


ERRORS = """
class BadRow(ValueError):
    def __init__(self, index):
        self.index = index
"""
# The call in row 6 is what the tests look for, from other files by way of `place`.
PLACES = """
LETTERS = "abcde"


def place_of(letter):
    return LETTERS.index(letter)


def place(letter):
    return place_of(letter)


WAYS = {"near": place}
"""


class RunningTests(unittest.TestCase):
    """The look at what properties and operators run, at small packages."""

    def found(self, text, errors=ERRORS):
        sources = {"errors.py": errors, "places.py": PLACES, "boxes.py": text}
        return stored_calls({name: ast.parse(source) for name, source in sources.items()})

    def assert_found(self, text):
        self.assertEqual(self.found(text), [("places.py", 6, "index")], text)
        # There is nothing to be found if no class has an attribute of that name.
        self.assertEqual(self.found(text, ""), [], text)

    def test_calls_of_the_method_itself(self):
        for head in ("@property\n    def low(self)", "def __and__(self, other)", "def __len__(self)"):
            text = f"class Box:\n    {head}:\n        return self.rows.index(1)\n"
            line = text[: text.index("return")].count("\n") + 1
            self.assertEqual(self.found(text), [("boxes.py", line, "index")], text)
            self.assertEqual(self.found(text, ""), [], text)

    def test_calls_behind_other_calls(self):
        begin = "from pack.places import WAYS, place\n\n\nclass Box:\n"
        for body in (
            "    @property\n    def low(self):\n        return place(self.letter)\n",
            "    def __eq__(self, other):\n        return isinstance(other, Box) and place('a') == 0\n",
            "    def __contains__(self, x):\n        return any([place(y) == x for y in 'ab'])\n",
            "    def __str__(self):\n        return f'{max([1], key=lambda x: place(x))}'\n",
            "    def __neg__(self):\n        way = WAYS['near']\n        return way('a')\n",
            "    def __abs__(self):\n        return self.low()\n\n    def low(self):\n        return place('a')\n",
            "    def __init__(self):\n        self.low = place('a')\n\n    def __pos__(self):\n        return Box()\n",
            "    def __invert__(self):\n        return Box.made()\n\n    def __init__(self):\n        place('a')\n\n"
            "    @classmethod\n    def made(cls):\n        return cls()\n",
            "    @property\n    def low(self):\n        return Lid()\n\n\nclass Cap:\n    def __init__(self):\n"
            "        place('a')\n\n\nclass Lid(Cap):\n    def told(self):\n        return 1\n",
        ):
            self.assert_found(begin + body)

    def test_calls_in_other_methods_do_not_count(self):
        begin = "from pack.places import place\n\n\nclass Box:\n"
        for head in ("low(self)", "__init__(self)", "__call__(self)", "__enter__(self)", "__iter__(self)"):
            text = begin + f"    def {head}:\n        place('a')\n\n    def __len__(self):\n        return 0\n"
            self.assertEqual(self.found(text), [], text)

    def test_attributes_of_all_kinds(self):
        text = "class Box:\n    def __len__(self):\n        return len(self.rows.index(1))\n"
        for body in (
            "    index = 0\n",
            "    def go(self, box):\n        box.index = 1\n",
            "    def go(self):\n        self.row, self.index = 1, 2\n",
            "    def go(self):\n        self.index += 1\n",
            "    def go(self):\n        for self.index in (1, 2):\n            pass\n",
        ):
            self.assertEqual(self.found(text, "class Row:\n" + body), [("boxes.py", 3, "index")], body)
        self.assertEqual(self.found(text, "index = 1\n\n\ndef go(row):\n    return row.index\n"), [])
