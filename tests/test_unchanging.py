"""Operators, properties and what they call by name change nothing: L2 Heaps, L5 Operators, L5 Properties, L28."""

import ast
import pathlib
import unittest

PACKAGE = pathlib.Path(__file__).resolve().parent.parent / "filedalike"
MODIFIERS = {
    "append", "clear", "extend", "insert", "pop", "remove", "reverse", "setdefault", "update", "sort", "add", "discard",
}
HEAPS = {"heapify", "heappop", "heappush", "heappushpop", "heapreplace"}
# These methods may change something; the names of all others with two underscores are roots.
FREE = {"__init__", "__call__", "__enter__", "__exit__", "__setitem__"}


def is_property(function):
    return any(isinstance(each, ast.Name) and each.id == "property" for each in function.decorator_list)


class Source:
    """The functions, classes and methods of some texts of files, each by its name alone."""

    def __init__(self, texts):
        self.functions, self.methods, self.classes, self.properties = {}, {}, {}, {}
        for text in texts:
            for part in ast.parse(text).body:
                if isinstance(part, ast.FunctionDef):
                    self.functions.setdefault(part.name, []).append(part)
                if isinstance(part, ast.ClassDef):
                    self.take_class(part)

    def take_class(self, part):
        self.classes[part.name] = part
        for method in part.body:
            if isinstance(method, ast.FunctionDef):
                kept = self.properties if is_property(method) else self.methods
                kept.setdefault(method.name, []).append(method)

    def roots(self):
        found = [method for methods in self.properties.values() for method in methods]
        for name, methods in self.methods.items():
            if name.startswith("__") and name not in FREE:
                found += methods
        return found

    def makers(self, name):
        """The `__init__` of a class and of its base classes."""
        if name not in self.classes:
            return []
        part = self.classes[name]
        own = [method for method in part.body if isinstance(method, ast.FunctionDef) and method.name == "__init__"]
        return own + [maker for base in part.bases for maker in self.makers(base.id)]

    def called_by(self, function):
        found = []
        for part in ast.walk(function):
            if isinstance(part, ast.Name):
                found += self.functions.get(part.id, [])
            if isinstance(part, ast.Call) and isinstance(part.func, ast.Name):
                found += self.makers(part.func.id)
            if isinstance(part, ast.Attribute) and part.attr != "__init__":
                found += self.methods.get(part.attr, []) + self.properties.get(part.attr, [])
        return found

    def reached(self):
        found, waiting = [], self.roots()
        while waiting:
            function = waiting.pop()
            if function not in found:
                found.append(function)
                waiting += self.called_by(function)
        return found


def made_here(function):
    """The names of lists and dicts that a function makes itself and binds to nothing else."""
    made = set()
    for part in ast.walk(function):
        if isinstance(part, ast.Assign) and isinstance(part.targets[0], ast.Name) and is_made(part.value):
            if stores_of(function, part.targets[0].id) == 1:
                made.add(part.targets[0].id)
    return made - {each.arg for each in ast.walk(function.args) if isinstance(each, ast.arg)}


def is_made(value):
    if isinstance(value, ast.Call) and isinstance(value.func, ast.Name):
        return value.func.id in ("list", "dict", "sorted")
    return isinstance(value, (ast.List, ast.ListComp, ast.Dict))


def stores_of(function, name):
    parts = [part for part in ast.walk(function) if isinstance(part, ast.Name) and part.id == name]
    return len([part for part in parts if isinstance(part.ctx, ast.Store)])


def changed_by(function):
    """The expressions whose value a function changes, but for its own lists and an object that it makes."""
    found = []
    for part in ast.walk(function):
        if isinstance(part, ast.Attribute) and not isinstance(part.ctx, ast.Load):
            if function.name != "__init__" or ast.unparse(part.value) != function.args.args[0].arg:
                found.append(part)
        if isinstance(part, ast.Subscript) and not isinstance(part.ctx, ast.Load):
            found.append(part.value)
        if isinstance(part, ast.Call) and isinstance(part.func, ast.Attribute) and part.func.attr in MODIFIERS:
            found.append(part.func.value)
        if isinstance(part, ast.Call) and isinstance(part.func, ast.Name) and part.func.id in HEAPS:
            found.append(part.args[0])
        if isinstance(part, ast.AugAssign) and not isinstance(part.value, ast.Constant):
            found.append(part.target)
    made = made_here(function)
    return [part for part in found if not (isinstance(part, ast.Name) and part.id in made)]


def wrong_rows(texts):
    return [(function.name, part.lineno) for function in Source(texts).reached() for part in changed_by(function)]


class Unchanging(unittest.TestCase):
    def test_the_package(self):
        texts = [path.read_text() for path in sorted(PACKAGE.glob("*.py"))]
        self.assertEqual(wrong_rows(texts), [])
        names = {function.name for function in Source(texts).reached()}
        self.assertTrue({"__eq__", "__or__", "turnable", "written", "stretches", "combined"} <= names)

    def test_the_check_goes_by_names(self):
        one = "class A:\n def __eq__(self, other):\n  return self.told() == other.told()\n"
        self.assertEqual(wrong_rows([one, "class B:\n def told(self):\n  self.n = 1"]), [("told", 3)])
        self.assertEqual(wrong_rows([one, "class B:\n def told(self):\n  return worked(self)",
                                     "def worked(box):\n box.rows.append(1)"]), [("worked", 2)])
        self.assertEqual(wrong_rows([one, "class B:\n def told(self):\n  return C()",
                                     "class C:\n def __init__(self):\n  self.n = N[0] = 1"]), [("__init__", 3)])
        self.assertEqual(wrong_rows([one, "class B:\n def other(self):\n  self.n = 1"]), [])

    def test_the_check_knows_own_lists(self):
        head = "class A:\n @property\n def told(self):\n"
        for rows in ("xs = []", "xs = [x for x in self.rows]", "xs = list(self.rows)", "xs = sorted(self.rows)"):
            self.assertEqual(wrong_rows([f"{head}  {rows}\n  xs.append(1)\n  xs[0] = 2\n  return xs"]), [])
        for rows in (
            "xs = {x: [] for x in self.rows}\n  xs[1].append(1)", "xs = {}\n  xs[1].append(1)",
            "xs = {x: 1 for x in self.rows}\n  xs[1] = 2", "xs = self.rows\n  xs.append(1)",
            "xs = []\n  xs = self.rows\n  xs.append(1)", "self.rows.sort()\n  self.n += 1", "xs = []\n  del self.n",
            "xs = []\n  heappush(self.rows, 1)",
        ):
            self.assertNotEqual(wrong_rows([f"{head}  {rows}\n  return xs"]), [], rows)


if __name__ == "__main__":
    unittest.main()
