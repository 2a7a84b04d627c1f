"""Rules of the language that a test can see (L1, L7, L10, L14, L23), and where the interface is defined."""

import ast
import pathlib
import unittest

PACKAGE = pathlib.Path(__file__).resolve().parent.parent / "filedalike"

INTERFACE = {
    "errors": {"MailError": (), "Clash": ()},
    "names": {"is_name": None, "is_number": None},
    "letters": {"BadLetter": (), "Letter": ("__init__", "written", "__eq__", "__str__")},
    "headrows": {"BadRow": (), "read_letter": None, "read_letters": None, "written_letters": None},
    "kinds": {
        "BadTest": (), "NoKind": (), "OwnTest": ("holds", "written", "__eq__"), "WordTest": (), "SubjectTest": (),
        "HouseTest": (), "LengthTest": (), "read_test": None, "kind_of": None, "kinds": None, "barred": None,
        "sender_kind": None, "sender_kinds": None, "kinds_of_sender": None, "house_of": None, "letter_of": None,
    },
    "threads": {
        "Threads": (
            "of", "put", "joined", "name_of", "members", "absent", "names", "letter_at", "summary", "__contains__",
            "__len__", "__iter__", "__eq__",
        ),
    },
    "joins": {"Join": ("__eq__",), "join_of": None, "each_join": None, "together_since": None, "chain": None},
    "forest": {
        "Forest": (
            "of", "put", "parent", "path", "root", "depth", "children", "ring_at", "roots", "summary", "walk_trees",
            "drawn", "__contains__", "__len__", "__eq__",
        ),
    },
    "rules": {
        "BadBook": (), "NoRule": (), "NotTurnable": (), "Mode": (),
        "Rule": ("fits", "meets", "turnable", "written", "__eq__"),
    },
    "strata": {"RingThroughLacks": ()},
    "book": {
        "OtherGround": (),
        "Book": (
            "read", "written", "__str__", "__eq__", "__len__", "__iter__", "__getitem__", "layers", "differs",
            "same_ground", "read_rule", "with_rules", "turned", "without",
        ),
    },
    "fitting": {"unfit_rules": None, "alike_kinds": None, "coverings": None},
    "always": {
        "View": ("__init__", "__or__", "__eq__", "key"), "thread_marks": None, "fitting": None, "borne": None,
        "view_of": None,
    },
    "support": {
        "NoMark": (), "HasMark": (), "Reason": ("__init__", "written", "__eq__"), "derivation": None,
        "first_fault": None, "bars": None,
    },
    "kept": {
        "NoLetter": (),
        "Kept": (
            "__init__", "come", "put", "edit", "stamp_marks", "borne", "hand_marks_of", "thread_view", "marks_had",
            "derivation_of", "joined_view", "why", "bearing", "each_thread",
        ),
    },
    "stamps": {"Stamp": ("__init__", "written", "__eq__"), "stamp": None, "empty_stamp": None, "walk": None},
    "senders": {
        "is_sender": None,
        "Senders": ("__init__", "give", "standings_of", "by_hand", "names", "__contains__", "__len__"),
    },
    "lastwords": {"LastWords": ("__init__", "say", "last", "seen", "numbers", "__or__", "__eq__")},
    "house": {
        "NotByHand": (), "BadEvent": (), "is_event": None,
        "House": (
            "__init__", "__len__", "__contains__", "__getitem__", "__iter__", "come", "put", "give", "see", "play",
            "edit", "tried", "stamp_of", "sight_of", "marks_of", "hands_of", "thread_marks_of", "thread_of",
            "members_of", "standings_of", "seen_of", "summary", "deeds", "anew",
        ),
    },
    "views": {"Step": (), "step": None},
    "closure": {
        "NoView": (),
        "Closure": (
            "__init__", "thread_views", "joined_views", "sender_views", "thread_cost", "joined_cost", "sender_cost",
            "thread_step", "sender_step", "lot", "__contains__",
        ),
    },
    "orders": {
        "Verdict": ("free",), "Free": ("table",), "Bound": ("first_order", "second_order"), "judge": None,
        "departures": None, "thread_events": None, "sender_events": None,
    },
    "viewcheck": {
        "table_fault": None, "cost_fault": None, "ground_fault": None, "threads_told": None, "senders_told": None,
        "orders_fault": None,
    },
    "leastsets": {"subsets": None, "least_of": None, "blockers": None, "is_upward": None},
    "turnings": {
        "turnable": None, "turn": None, "Turned": ("is_good",),
        "Turnings": (
            "__init__", "turned", "good_sets", "least_sets", "needed", "spoiled", "mended", "stuck", "__len__",
            "__iter__",
        ),
    },
    "plainrun": {"plain_run": None},
    "jointviews": {
        "JointViews": ("__init__", "thread_views", "joined_views", "sender_views", "followed", "after_edit"),
    },
    "twobooks": {
        "Alike": ("alike",), "Unlike": ("alike",), "compare": None, "alike_books": None, "idle_rules": None,
        "trims": None,
    },
    "bookedits": {"Seamless": ("seamless",), "Seam": ("seamless",), "edit_seam": None, "changed_kinds": None},
    "deeds": {"BadDeed": (), "Deed": ("__init__", "__eq__"), "forged": None},
    "had": {
        "BadHad": (),
        "Had": (
            "__init__", "__contains__", "__or__", "__and__", "__sub__", "__eq__", "__iter__", "of", "read", "written",
            "many", "following", "gaps",
        ),
    },
    "folding": {"NotFree": (), "checked": None, "Fold": ("__init__", "put", "trial")},
    "devices": {
        "Forged": (), "WrongDeed": (), "meaning": None,
        "Device": (
            "__init__", "come", "put", "give", "see", "edit", "receive", "deeds", "held", "parcel", "summary",
            "new_house",
        ),
    },
    "meetings": {"Strangers": (), "meet": None, "routes": None},
    "query": {
        "NestedThread": (), "Query": ("written", "__invert__", "__and__", "__or__", "__eq__"), "Every": (), "Says": (),
        "Heads": (), "From": (), "At": (), "Bears": (), "Stands": (), "Seen": (), "Among": (), "Not": (), "Both": (),
        "Either": (),
    },
    "queryread": {"BadQuery": (), "read_query": None},
    "papers": {"holds": None, "paper": None, "search": None},
    "index": {"Index": ("lay", "numbers_of", "how_many", "all_keys", "__contains__", "__len__", "__eq__")},
    "desk": {
        "NoWatch": (),
        "Desk": (
            "__init__", "come", "put", "give", "see", "play", "edit", "find", "first_found", "each_found", "watch",
            "news", "unwatch", "watches",
        ),
    },
    "counts": {"Counts": ("__init__", "by_mark", "by_sender", "by_thread", "facets", "spread", "total")},
}

MODIFIERS = {"append", "extend", "insert", "remove", "pop", "clear", "reverse", "update", "setdefault"}


def package_files():
    return [path for path in sorted(PACKAGE.rglob("*")) if "__pycache__" not in path.parts]


class Files(unittest.TestCase):
    def test_the_folder_has_nothing_but_python_files(self):
        files = package_files()
        self.assertIn(PACKAGE / "__init__.py", files)
        self.assertTrue(len(files) <= 100)
        for path in files:
            self.assertTrue(path.is_file() or (path / "__init__.py").is_file(), path)
            if path.is_file():
                self.assertEqual(path.suffix, ".py", path)
                self.assertRegex(path.stem, r"\A[a-z0-9_]+\Z")
                self.assertFalse(path.stem.startswith("test"), path)

    def test_characters(self):
        for path in package_files():
            if path.is_file():
                for sign in set(path.read_bytes().decode("utf-8")):
                    self.assertTrue(" " <= sign <= "~" or sign == "\n", (path, sign))

    def test_lines(self):
        for path in package_files():
            if path.is_file():
                rows = path.read_text().split("\n")
                self.assertEqual(rows[-1], "", path)
                self.assertTrue(len(rows) - 1 <= 399, path)
                self.assertEqual([row for row in rows if len(row) > 120], [], path)

    def test_functions(self):
        for path in package_files():
            if path.is_file():
                for part in ast.walk(ast.parse(path.read_text())):
                    if isinstance(part, ast.FunctionDef):
                        self.assertTrue(part.end_lineno - part.lineno < 40, (path, part.name))


def names_in(function):
    """A function that gives one name to all expressions that a function assigns to one another."""
    same = {}

    def first(text):
        while text in same:
            text = same[text]
        return text

    for part in ast.walk(function):
        if isinstance(part, ast.Assign):
            values = [part.value]
            if isinstance(part.value, ast.IfExp):
                values = [part.value.body, part.value.orelse]
            if isinstance(part.value, ast.BoolOp):
                values = part.value.values
            for value in values:
                for target in part.targets:
                    one, other = first(ast.unparse(target)), first(ast.unparse(value))
                    if isinstance(value, (ast.Name, ast.Attribute, ast.Subscript)) and one != other:
                        same[one] = other
    return lambda part: first(ast.unparse(part))


def walked_by(loop):
    """What a loop walks as it is, without a copy."""
    parts, found = [loop.iter], []
    while parts:
        part = parts.pop()
        if isinstance(part, ast.Call) and isinstance(part.func, ast.Attribute):
            parts += [part.func.value] if part.func.attr in ("items", "keys", "values") else []
        elif isinstance(part, ast.Call) and part.func.id in ("enumerate", "zip", "reversed"):
            parts += part.args
        elif isinstance(part, (ast.Name, ast.Attribute)):
            found.append(part)
        elif isinstance(part, ast.Subscript):
            found += [part, part.value]
    return found


def modified_in(loop):
    """What the rows of a loop modify."""
    for row in loop.body:
        for part in ast.walk(row):
            if isinstance(part, ast.Call) and isinstance(part.func, ast.Attribute) and part.func.attr in MODIFIERS:
                yield part.func.value
            if isinstance(part, ast.Subscript) and not isinstance(part.ctx, ast.Load):
                yield part.value
            if isinstance(part, ast.AugAssign):
                yield part.target


class Loops(unittest.TestCase):
    def wrong_rows(self, text):
        found = []
        for function in ast.walk(ast.parse(text)):
            if isinstance(function, ast.FunctionDef):
                name = names_in(function)
                for loop in ast.walk(function):
                    if isinstance(loop, ast.For):
                        walked = {name(part) for part in walked_by(loop)}
                        found += [part.lineno for part in modified_in(loop) if name(part) in walked]
        return found

    def test_what_a_loop_walks_is_not_changed_in_it(self):
        for path in package_files():
            if path.is_file():
                self.assertEqual(self.wrong_rows(path.read_text()), [], path)

    def test_the_check_sees_other_names(self):
        self.assertEqual(self.wrong_rows("def f(xs):\n for x in xs:\n  xs.append(x)"), [3])
        self.assertEqual(self.wrong_rows("def f(xs):\n for x in xs:\n  ys = []\n  ys.append(x)\n  xs = ys"), [4])
        self.assertEqual(self.wrong_rows("def f(d):\n for x in d.items():\n  d[x] = 1"), [3])
        self.assertEqual(self.wrong_rows("def f(xs):\n for x in list(xs):\n  xs.append(x)"), [])


class Stars(unittest.TestCase):
    def test_stars_stand_before_plain_values(self):
        for path in package_files():
            if path.is_file():
                for part in ast.walk(ast.parse(path.read_text())):
                    if isinstance(part, ast.Call) and any(isinstance(each, ast.Starred) for each in part.args):
                        values = [each.value if isinstance(each, ast.Starred) else each for each in part.args]
                        self.assertTrue(all(self.is_plain(value) for value in values), (path, part.lineno))

    def is_plain(self, value):
        if isinstance(value, ast.Attribute):
            return isinstance(value.value, ast.Name)
        if isinstance(value, (ast.List, ast.Tuple)):
            return all(self.is_plain(each) for each in value.elts)
        return isinstance(value, (ast.Name, ast.Constant))


class Interface(unittest.TestCase):
    def test_names_are_defined_in_their_files(self):
        for stem, names in INTERFACE.items():
            tree = ast.parse((PACKAGE / f"{stem}.py").read_text())
            defined = {part.name: part for part in tree.body if isinstance(part, (ast.FunctionDef, ast.ClassDef))}
            for name, methods in names.items():
                self.assertIn(name, defined, stem)
                self.assertIsInstance(defined[name], ast.FunctionDef if methods is None else ast.ClassDef)
                if methods is not None:
                    inside = {part.name for part in defined[name].body if isinstance(part, ast.FunctionDef)}
                    self.assertEqual(set(methods) - inside, set(), name)


if __name__ == "__main__":
    unittest.main()
