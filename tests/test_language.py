"""The rules of the language that a look at the tree of each file can tell."""

import ast
import builtins
import os
import re
import unittest
from functools import cache

PACKAGE = os.path.join(os.path.dirname(os.path.dirname(os.path.abspath(__file__))), "plateheaps")

LIBRARY = {
    "heapq": {"heappush", "heappop", "heapify", "heapreplace", "heappushpop"},
    "math": {"gcd", "lcm", "isqrt", "comb", "perm", "factorial"},
    "itertools": {"product", "combinations", "permutations"},
    "collections": {"defaultdict", "deque"},
}

ALLOWED = set("""
    len range enumerate zip min max sum abs sorted reversed int str bool list tuple dict set isinstance ord repr
    any all divmod iter next Exception ValueError TypeError KeyError IndexError LookupError ZeroDivisionError
    ArithmeticError OverflowError RuntimeError NotImplementedError StopIteration NotImplemented
""".split())

METHODS = set("""
    append clear copy count endswith extend find get index insert isalnum isalpha isdigit islower isspace isupper
    items join keys ljust lower lstrip partition pop remove replace reverse rfind rjust rpartition rsplit rstrip
    setdefault split splitlines startswith strip update upper values zfill bit_length
""".split())

BARRED = (
    ast.AsyncFunctionDef, ast.Await, ast.Global, ast.GeneratorExp, ast.Set, ast.SetComp, ast.With,
    ast.AnnAssign, ast.NamedExpr, ast.Yield, ast.YieldFrom, ast.Div, ast.Import,
)


def files():
    return sorted(name for name in os.listdir(PACKAGE) if name != "__pycache__")


def text_of(name):
    with open(os.path.join(PACKAGE, name), encoding="utf-8") as file:
        return file.read()


@cache
def trees():
    return [(name, ast.parse(text_of(name))) for name in files()]


def imports_of(tree):
    return [node for node in tree.body if isinstance(node, ast.ImportFrom)]


def bound_inside(tree):
    """Return all names that functions bind: parameters, variables, nested functions."""
    found = []
    for node in ast.walk(tree):
        if isinstance(node, ast.arg):
            found.append(node.arg)
        elif isinstance(node, ast.Name) and not isinstance(node.ctx, ast.Load):
            found.append(node.id)
    return found


def bound_above(tree):
    """Return all names that a file binds at module level."""
    found = [item.name for node in imports_of(tree) for item in node.names]
    for node in tree.body:
        if isinstance(node, (ast.FunctionDef, ast.ClassDef)):
            found.append(node.name)
        elif isinstance(node, ast.Assign):
            found += [target.id for target in node.targets]
    return found


class Files(unittest.TestCase):
    def test_nothing_but_files_of_the_program(self):
        for name in files():
            self.assertRegex(name, r"^[a-z_]+\.py$")

    def test_sizes_and_characters(self):
        for name in files():
            lines = text_of(name).split("\n")
            self.assertLessEqual(len(lines), 400, name)
            for line in lines:
                self.assertLessEqual(len(line), 120, line)
                self.assertRegex(line, r"^[ -~]*$")

    def test_functions_have_forty_lines_at_most(self):
        for name, tree in trees():
            for node in ast.walk(tree):
                if isinstance(node, ast.FunctionDef):
                    self.assertLessEqual(node.end_lineno - node.lineno + 1, 40, (name, node.name))

    def test_module_level(self):
        kinds = (ast.FunctionDef, ast.ClassDef, ast.ImportFrom, ast.Assign, ast.Expr)
        for name, tree in trees():
            for at, node in enumerate(tree.body):
                self.assertIsInstance(node, kinds, name)
                self.assertTrue(not isinstance(node, ast.Expr) or at == 0, name)


class Imports(unittest.TestCase):
    def test_names_come_from_the_file_that_defines_them(self):
        defined = {"plateheaps." + name[:-3]: bound_above(tree) for name, tree in trees()}
        for name, tree in trees():
            own = [item.name for node in imports_of(tree) for item in node.names]
            for node in imports_of(tree):
                self.assertEqual(node.level, 0)
                source = LIBRARY.get(node.module) or defined[node.module]
                for item in node.names:
                    self.assertIsNone(item.asname)
                    self.assertIn(item.name, source, name)
                    if node.module in defined:
                        base = dict(trees())[node.module.split(".")[1] + ".py"]
                        self.assertNotIn(item.name, [i.name for n in imports_of(base) for i in n.names])
            self.assertEqual(len(own), len(set(own)), name)

    def test_no_two_files_import_each_other(self):
        needs = {}
        for name, tree in trees():
            needs[name] = [node.module.split(".")[1] + ".py" for node in imports_of(tree) if "." in node.module]
        while needs:
            free = [name for name in needs if not any(other in needs for other in needs[name])]
            self.assertTrue(free, needs)
            for name in free:
                del needs[name]

    def test_each_import_is_used(self):
        for name, tree in trees():
            used = {node.id for node in ast.walk(tree) if isinstance(node, ast.Name)}
            for node in imports_of(tree):
                for item in node.names:
                    self.assertIn(item.name, used, name)


class Names(unittest.TestCase):
    def test_no_name_has_two_meanings(self):
        for name, tree in trees():
            above = bound_above(tree)
            self.assertEqual(len(above), len(set(above)), name)
            imported = [item.name for node in imports_of(tree) for item in node.names]
            classes = [node.name for node in tree.body if isinstance(node, ast.ClassDef)]
            for bound in bound_inside(tree):
                self.assertNotIn(bound, imported + classes, name)
            for bound in bound_inside(tree) + above:
                self.assertNotIn(bound, dir(builtins), name)
                self.assertFalse(bound.startswith("__"), bound)

    def test_builtins(self):
        for name, tree in trees():
            known = bound_above(tree) + bound_inside(tree)
            for node in ast.walk(tree):
                if isinstance(node, ast.Name) and node.id not in known:
                    self.assertIn(node.id, ALLOWED, name)

    def test_methods_that_are_called(self):
        own = set()
        for _, tree in trees():
            for node in ast.walk(tree):
                if isinstance(node, ast.ClassDef):
                    own |= {part.name for part in node.body if isinstance(part, ast.FunctionDef)}
        for name, tree in trees():
            for node in ast.walk(tree):
                if isinstance(node, ast.Call) and isinstance(node.func, ast.Attribute):
                    self.assertIn(node.func.attr, own | METHODS, name)


class Statements(unittest.TestCase):
    def test_barred_ones(self):
        for name, tree in trees():
            for node in ast.walk(tree):
                self.assertNotIsInstance(node, BARRED, (name, getattr(node, "lineno", 0)))

    def test_literals(self):
        for name, tree in trees():
            for node in ast.walk(tree):
                if isinstance(node, ast.Constant):
                    self.assertNotIsInstance(node.value, (float, complex, bytes), name)
                    if isinstance(node.value, str):
                        self.assertNotIn("%", node.value, name)

    def test_only_plain_numbers_are_added_in_place(self):
        for name, tree in trees():
            for node in ast.walk(tree):
                if isinstance(node, ast.AugAssign):
                    self.assertIsInstance(node.value, ast.Constant, (name, node.lineno))
                    self.assertIsInstance(node.value.value, int, (name, node.lineno))

    def test_only_own_errors_are_caught(self):
        own = [node.name for node in dict(trees())["errors.py"].body if isinstance(node, ast.ClassDef)]
        for name, tree in trees():
            for node in ast.walk(tree):
                if isinstance(node, ast.Try):
                    self.assertEqual(node.finalbody, [], (name, node.lineno))
                    for handler in node.handlers:
                        parts = handler.type.elts if isinstance(handler.type, ast.Tuple) else [handler.type]
                        for part in parts:
                            self.assertIn(part.id, own, (name, node.lineno))

    def test_raised_errors_are_made_on_the_spot(self):
        for name, tree in trees():
            for node in ast.walk(tree):
                if isinstance(node, ast.Raise):
                    self.assertIsInstance(node.exc, ast.Call, (name, node.lineno))

    def test_stars_in_calls_stand_before_own_functions_alone(self):
        for name, tree in trees():
            for node in ast.walk(tree):
                if isinstance(node, ast.Call) and any(isinstance(part, ast.Starred) for part in node.args):
                    self.assertNotIn(getattr(node.func, "id", ""), ALLOWED | LIBRARY["math"], (name, node.lineno))

    def test_words_that_stand_nowhere(self):
        words = re.compile(r"_wall|\b(type|typing|enum|Enum|Flag|Generic|Protocol|ABC|ABCMeta|namedtuple|NamedTuple)\b")
        for name in files():
            self.assertIsNone(words.search(text_of(name)), name)

    def test_names_that_are_not_used(self):
        barred = "register mro elements open input law dir exit id gc globals locals help license os quit super vars"
        for name, tree in trees():
            for node in ast.walk(tree):
                for part in ("id", "arg", "attr", "name"):
                    self.assertNotIn(getattr(node, part, ""), barred.split(), (name, getattr(node, "lineno", 0)))

    def test_no_method_sorts_in_place(self):
        for name, tree in trees():
            for node in ast.walk(tree):
                if isinstance(node, ast.Attribute):
                    self.assertNotEqual(node.attr, "sort", (name, node.lineno))


if __name__ == "__main__":
    unittest.main()
