"""The rules of the Python subset that can be seen by reading the files."""

import ast
import builtins
import re
import unittest
from pathlib import Path

PACKAGE = Path(__file__).resolve().parent.parent / "squareworlds"
FILES = sorted(PACKAGE.rglob("*.py"))

LIBRARY = {
    "heapq": {"heappush", "heappop", "heapify", "heapreplace", "heappushpop"},
    "math": {"gcd", "lcm", "isqrt", "comb", "perm", "factorial"},
    "itertools": {"product", "combinations", "permutations"},
}
BUILTINS = set(
    "len range enumerate zip min max sum abs sorted reversed int str bool bytes list tuple dict"
    " set isinstance repr any all divmod map ValueError IndexError KeyError super property".split()
)
METHODS = set(
    "append clear copy count endswith extend find get index insert isalnum isalpha isdigit"
    " islower isspace isupper items join keys ljust lower lstrip partition pop remove replace"
    " reverse rfind rjust rpartition rsplit rstrip setdefault split splitlines startswith strip"
    " update upper values zfill bit_length add discard".split()
)
BARRED_WORDS = set(
    "type typing typing_extensions enum Enum IntEnum StrEnum Flag IntFlag Generic Protocol ABC"
    " ABCMeta namedtuple NamedTuple TypedDict TYPE_CHECKING abstractmethod".split()
)
BARRED_NAMES = set(
    "register mro elements open input law version_info with_traceback add_note".split()
)
STATEMENTS = (
    ast.Assign,
    ast.AugAssign,
    ast.If,
    ast.While,
    ast.For,
    ast.Return,
    ast.Break,
    ast.Continue,
    ast.Pass,
    ast.Raise,
    ast.Assert,
    ast.Delete,
    ast.Try,
    ast.Expr,
    ast.FunctionDef,
    ast.ClassDef,
    ast.ImportFrom,
)


# What is not kept, and by what it is iterated at once.
ITERATED = set("range zip enumerate reversed items keys values permutations".split())
ITERATING = set(
    "list tuple dict sorted sum any all enumerate zip min max reversed permutations".split()
)


def name_called(node):
    """The name of the function or method that is called, None for no call."""
    if not isinstance(node, ast.Call):
        return None
    return getattr(node.func, "id", getattr(node.func, "attr", None))


def tree_of(path):
    return ast.parse(path.read_text(encoding="utf-8"))


def is_docstring(node):
    return (
        isinstance(node, ast.Expr)
        and isinstance(node.value, ast.Constant)
        and isinstance(node.value.value, str)
    )


def functions_in(tree):
    return [node for node in ast.walk(tree) if isinstance(node, ast.FunctionDef)]


def classes_in(tree):
    return [node for node in tree.body if isinstance(node, ast.ClassDef)]


def own_methods():
    """The names of all methods of the package's own classes."""
    return {
        node.name
        for path in FILES
        for part in classes_in(tree_of(path))
        for node in part.body
        if isinstance(node, ast.FunctionDef)
    }


def bound_names(function):
    """The parameters and local variables of a function."""
    names = {arg.arg for arg in ast.walk(function.args) if isinstance(arg, ast.arg)}
    for node in ast.walk(function):
        if isinstance(node, ast.Name) and isinstance(node.ctx, ast.Store):
            names.add(node.id)
    return names


def imports_of(tree):
    return [node for node in tree.body if isinstance(node, ast.ImportFrom)]


class TestFiles(unittest.TestCase):
    def test_the_folder_holds_files_of_the_package_alone(self):
        for path in PACKAGE.iterdir():
            if path.name != "__pycache__":
                self.assertRegex(path.name, r"^[a-z0-9_]+\.py$")
        self.assertLessEqual(len(FILES), 100)

    def test_lines(self):
        for path in FILES:
            text = path.read_text(encoding="utf-8")
            self.assertTrue(text.isascii(), path)
            self.assertNotIn("\t", text)
            self.assertNotIn("\r", text)
            lines = text.split("\n")
            self.assertLessEqual(len(lines), 399, path)
            self.assertLessEqual(max(len(line) for line in lines), 120, path)

    def test_functions_are_short(self):
        for path in FILES:
            for function in functions_in(tree_of(path)):
                lines = function.end_lineno - function.lineno + 1
                self.assertLessEqual(lines, 40, (path, function.name))

    def test_decorators_make_properties_alone(self):
        for path in FILES:
            tree = tree_of(path)
            methods = [node for part in classes_in(tree) for node in part.body]
            for function in functions_in(tree):
                names = [ast.unparse(node) for node in function.decorator_list]
                if function in methods:
                    self.assertIn(names, ([], ["property"]), (path, function.name))
                else:
                    self.assertEqual(names, [], (path, function.name))


class TestModules(unittest.TestCase):
    def test_module_level(self):
        for path in FILES:
            for place, node in enumerate(tree_of(path).body):
                if place == 0 and is_docstring(node):
                    continue
                self.assertIsInstance(
                    node, (ast.ImportFrom, ast.FunctionDef, ast.ClassDef, ast.Assign), path
                )
                if isinstance(node, ast.Assign):
                    self.assertEqual(len(node.targets), 1)
                    self.assertIsInstance(node.targets[0], ast.Name)
                    for part in ast.walk(node.value):
                        self.assertNotIsInstance(part, (ast.Call, ast.ListComp, ast.Lambda))

    def test_imports(self):
        for path in FILES:
            for node in imports_of(tree_of(path)):
                self.assertEqual(node.level, 0)
                names = {alias.name for alias in node.names}
                self.assertTrue(all(alias.asname is None for alias in node.names))
                if node.module in LIBRARY:
                    self.assertLessEqual(names, LIBRARY[node.module])
                    continue
                package, name = node.module.split(".")
                self.assertEqual(package, "squareworlds")
                body = tree_of(PACKAGE / (name + ".py")).body
                defined = {part.name for part in body if hasattr(part, "name")}
                for part in body:
                    if isinstance(part, ast.Assign):
                        defined.add(part.targets[0].id)
                self.assertLessEqual(names, defined, path)

    def test_no_circles_of_imports(self):
        wanted = {}
        for path in FILES:
            modules = [node.module for node in imports_of(tree_of(path))]
            wanted[path.stem] = {m.split(".")[1] for m in modules if m not in LIBRARY}
        self.assertEqual(wanted["__init__"], set())
        left = dict(wanted)
        while left:
            free = [name for name in left if not wanted[name] & set(left)]
            self.assertNotEqual(free, [], left)
            for name in free:
                del left[name]

    def test_names_are_bound_once_and_used(self):
        for path in FILES:
            tree = tree_of(path)
            names = [alias.name for node in imports_of(tree) for alias in node.names]
            imported = set(names)
            for node in tree.body:
                if isinstance(node, (ast.FunctionDef, ast.ClassDef)):
                    names.append(node.name)
                elif isinstance(node, ast.Assign):
                    names.append(node.targets[0].id)
            self.assertEqual(len(names), len(set(names)), path)
            read = {node.id for node in ast.walk(tree) if isinstance(node, ast.Name)}
            self.assertLessEqual(imported, read, path)
            classes = {node.name for node in classes_in(tree)}
            for function in functions_in(tree):
                local = bound_names(function)
                self.assertEqual(local & (imported | classes), set(), (path, function.name))
                self.assertEqual(local & set(names), set(), (path, function.name))
                self.assertEqual(local & set(dir(builtins)), set(), (path, function.name))
            self.assertEqual(set(names) & set(dir(builtins)), set(), path)


class TestCode(unittest.TestCase):
    def test_statements(self):
        for path in FILES:
            for node in ast.walk(tree_of(path)):
                if isinstance(node, ast.stmt):
                    self.assertIsInstance(node, STATEMENTS, (path, node.lineno))
                if isinstance(node, ast.Raise) and node.exc is not None:
                    self.assertIsInstance(node.exc, ast.Call, (path, node.lineno))

    def test_expressions(self):
        barred = (ast.Div, ast.MatMult, ast.Await, ast.Lambda, ast.Yield, ast.YieldFrom)
        for path in FILES:
            for node in ast.walk(tree_of(path)):
                self.assertNotIsInstance(node, barred, path)
                if isinstance(node, ast.Constant):
                    self.assertNotIsInstance(node.value, (float, complex), (path, node.lineno))
                if isinstance(node, ast.Compare):
                    for sign, side in zip(node.ops, node.comparators):
                        if isinstance(sign, (ast.Is, ast.IsNot)):
                            self.assertIsInstance(side, ast.Constant, (path, node.lineno))

    def test_percent_signs_stand_in_no_string(self):
        for path in FILES:
            for node in ast.walk(tree_of(path)):
                if isinstance(node, ast.Constant) and isinstance(node.value, str):
                    self.assertNotIn("%", node.value, (path, node.lineno))

    def test_names(self):
        for path in FILES:
            tree = tree_of(path)
            for node in ast.walk(tree):
                if isinstance(node, ast.Name) and node.id in dir(builtins):
                    self.assertIn(node.id, BUILTINS, (path, node.lineno))
                if isinstance(node, ast.Name):
                    self.assertNotIn(node.id, BARRED_NAMES, (path, node.lineno))
                    self.assertFalse(node.id.startswith("__"), (path, node.lineno))
            words = {
                word
                for node in ast.walk(tree)
                for field in ("id", "attr", "name", "arg")
                for word in re.findall(r"\w+", str(getattr(node, field, "")))
            }
            self.assertEqual(words & (BARRED_WORDS | BARRED_NAMES), set(), path)

    def test_methods(self):
        for path in FILES:
            tree = tree_of(path)
            for node in ast.walk(tree):
                if not isinstance(node, ast.Call) or not isinstance(node.func, ast.Attribute):
                    continue
                if node.func.attr == "__init__" and isinstance(node.func.value, ast.Call):
                    continue
                self.assertIn(node.func.attr, METHODS | own_methods(), (path, node.lineno))
                self.assertEqual(node.keywords, [], (path, node.lineno))

    def test_own_methods_have_names_of_their_own(self):
        self.assertEqual(own_methods() & METHODS, set())

    def test_what_is_iterated_at_once(self):
        for path in FILES:
            tree = tree_of(path)
            right_places = set()
            for node in ast.walk(tree):
                if isinstance(node, (ast.For, ast.comprehension)):
                    right_places.add(node.iter)
                elif isinstance(node, ast.Compare) and isinstance(node.ops[0], (ast.In, ast.NotIn)):
                    right_places.add(node.comparators[0])
                elif isinstance(node, ast.Assign) and name_called(node.value) == "range":
                    right_places.add(node.value)
                elif name_called(node) in ITERATING:
                    right_places.update(node.args)
            for node in ast.walk(tree):
                if name_called(node) in ITERATED:
                    self.assertIn(node, right_places, (path, node.lineno))

    def test_attributes_of_own_objects_are_assigned_in_methods(self):
        for path in FILES:
            tree = tree_of(path)
            inside = [part for node in classes_in(tree) for part in ast.walk(node)]
            for node in ast.walk(tree):
                if isinstance(node, ast.Attribute) and isinstance(node.ctx, ast.Store):
                    self.assertIn(node, inside, (path, node.lineno))
                    self.assertIsInstance(node.value, ast.Name, (path, node.lineno))

    def test_sets_are_not_iterated(self):
        for path in FILES:
            for function in functions_in(tree_of(path)):
                kept = {
                    node.targets[0].id
                    for node in ast.walk(function)
                    if isinstance(node, ast.Assign) and self.makes_set(node.value)
                }
                for node in ast.walk(function):
                    if isinstance(node, (ast.For, ast.comprehension)):
                        self.assertFalse(self.makes_set(node.iter), (path, function.name))
                        if isinstance(node.iter, ast.Name):
                            self.assertNotIn(node.iter.id, kept, (path, function.name))

    def makes_set(self, node):
        if isinstance(node, (ast.Set, ast.SetComp)):
            return True
        return (
            isinstance(node, ast.Call)
            and isinstance(node.func, ast.Name)
            and node.func.id == "set"
        )


if __name__ == "__main__":
    unittest.main()
