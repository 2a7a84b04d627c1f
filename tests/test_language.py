"""The sizes and characters of the files (L1, L10, L14), and where the names of the interface are defined."""

import ast
import pathlib
import unittest

PACKAGE = pathlib.Path(__file__).resolve().parent.parent / "filedalike"

INTERFACE = {
    "errors": {"MailError": (), "Clash": ()},
    "names": {"is_name": None, "is_number": None},
    "letters": {"BadLetter": (), "Letter": ("__init__", "written", "__eq__", "__str__")},
    "headrows": {"BadRow": (), "read_letter": None, "read_letters": None, "written_letters": None},
    "kinds": {
        "BadTest": (), "NoKind": (), "OwnTest": ("holds", "written", "__eq__"), "WordTest": (), "SubjectTest": (),
        "HouseTest": (), "LengthTest": (), "read_test": None, "kind_of": None, "kinds": None, "barred": None,
        "sender_kind": None, "sender_kinds": None, "kinds_of_sender": None, "house_of": None, "letter_of": None,
    },
    "threads": {
        "Threads": (
            "of", "put", "joined", "name_of", "members", "absent", "names", "letter_at", "summary", "__contains__",
            "__len__", "__iter__", "__eq__",
        ),
    },
    "joins": {"Join": ("__eq__",), "join_of": None, "each_join": None, "together_since": None, "chain": None},
    "forest": {
        "Forest": (
            "of", "put", "parent", "path", "root", "depth", "children", "ring_at", "roots", "summary", "walk_trees",
            "drawn", "__contains__", "__len__", "__eq__",
        ),
    },
    "rules": {
        "BadBook": (), "NoRule": (), "NotTurnable": (), "Mode": (),
        "Rule": ("fits", "meets", "turnable", "written", "__eq__"),
    },
    "strata": {"RingThroughLacks": ()},
    "book": {
        "OtherGround": (),
        "Book": (
            "read", "written", "__str__", "__eq__", "__len__", "__iter__", "__getitem__", "layers", "differs",
            "same_ground", "read_rule", "with_rules", "turned", "without",
        ),
    },
    "fitting": {"unfit_rules": None, "alike_kinds": None, "coverings": None},
    "always": {
        "View": ("__init__", "__or__", "__eq__", "key"), "thread_marks": None, "fitting": None, "borne": None,
        "view_of": None,
    },
}


def package_files():
    return [path for path in sorted(PACKAGE.rglob("*")) if "__pycache__" not in path.parts]


class Files(unittest.TestCase):
    def test_the_folder_has_nothing_but_python_files(self):
        files = package_files()
        self.assertIn(PACKAGE / "__init__.py", files)
        self.assertTrue(len(files) <= 100)
        for path in files:
            self.assertTrue(path.is_file() or (path / "__init__.py").is_file(), path)
            if path.is_file():
                self.assertEqual(path.suffix, ".py", path)
                self.assertRegex(path.stem, r"\A[a-z0-9_]+\Z")
                self.assertFalse(path.stem.startswith("test"), path)

    def test_characters(self):
        for path in package_files():
            if path.is_file():
                for sign in set(path.read_bytes().decode("utf-8")):
                    self.assertTrue(" " <= sign <= "~" or sign == "\n", (path, sign))

    def test_lines(self):
        for path in package_files():
            if path.is_file():
                rows = path.read_text().split("\n")
                self.assertEqual(rows[-1], "", path)
                self.assertTrue(len(rows) - 1 <= 399, path)
                self.assertEqual([row for row in rows if len(row) > 120], [], path)

    def test_functions(self):
        for path in package_files():
            if path.is_file():
                for part in ast.walk(ast.parse(path.read_text())):
                    if isinstance(part, ast.FunctionDef):
                        self.assertTrue(part.end_lineno - part.lineno < 40, (path, part.name))


class Interface(unittest.TestCase):
    def test_names_are_defined_in_their_files(self):
        for stem, names in INTERFACE.items():
            tree = ast.parse((PACKAGE / f"{stem}.py").read_text())
            defined = {part.name: part for part in tree.body if isinstance(part, (ast.FunctionDef, ast.ClassDef))}
            for name, methods in names.items():
                self.assertIn(name, defined, stem)
                self.assertIsInstance(defined[name], ast.FunctionDef if methods is None else ast.ClassDef)
                if methods is not None:
                    inside = {part.name for part in defined[name].body if isinstance(part, ast.FunctionDef)}
                    self.assertEqual(set(methods) - inside, set(), name)


if __name__ == "__main__":
    unittest.main()
