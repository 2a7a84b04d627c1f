"""Rules: [37], [38], and what the interface lists for them."""

import random
import unittest
from itertools import product

from filedalike.book import Book
from filedalike.errors import MailError
from filedalike.rules import BadBook, Mode, NoRule, NotTurnable, Rule
from tests.models import ordered_parts, random_book_text

GROUND = "mark a\nmark b\nstanding a\nstanding c\ntest word x\ntest words 3\n"


def rule_of(row):
    return Book.read(GROUND + row)[1]


class Fits(unittest.TestCase):
    def test_wishes_about_tests(self):
        cases = {
            "": [True, True, True, True], " if test 1": [False, False, True, True],
            " if not test 1": [True, True, False, False], " if test 2": [False, True, False, True],
            " if not test 2": [True, False, True, False], " if test 1, not test 2": [False, False, True, False],
            " if thread a, not sender c": [True, True, True, True],
        }
        for wishes, fits in cases.items():
            rule = rule_of("rule coming mark b" + wishes)
            for kind, right in zip(product((False, True), repeat=2), fits):
                self.assertIs(rule.fits(kind), right, (wishes, kind))

    def test_books_without_tests(self):
        self.assertIs(Book.read("mark a\nrule always mark a")[1].fits(()), True)


class Meets(unittest.TestCase):
    def check(self, wishes, marks, standings, right):
        rule = rule_of("rule coming mark b" + wishes)
        self.assertIs(rule.meets(marks, standings), right, (wishes, marks, standings))
        self.assertIs(rule.meets(tuple(marks[::-1]), tuple(standings[::-1])), right)

    def test_wishes_about_thread_and_sender(self):
        self.check("", [], [], True)
        self.check("", ["a", "b"], ["a", "c"], True)
        self.check(" if thread a", ["a"], [], True)
        self.check(" if thread a", ["b"], ["a"], False)
        self.check(" if not thread a", ["b"], ["a"], True)
        self.check(" if not thread a", ["b", "a"], [], False)
        self.check(" if thread a, not thread b", ["a"], [], True)
        self.check(" if thread a, not thread b", ["a", "b"], [], False)
        self.check(" if sender a", ["a"], [], False)
        self.check(" if sender a", [], ["c", "a"], True)
        self.check(" if not sender c", ["b"], ["a"], True)
        self.check(" if not sender c", [], ["a", "c"], False)
        self.check(" if thread a, sender c", ["a"], ["c"], True)
        self.check(" if thread a, sender c", ["a"], ["a"], False)
        self.check(" if thread a, sender c", ["b"], ["c"], False)

    def test_tests_do_not_count(self):
        self.check(" if test 1, not test 2", [], [], True)

    def test_fits_and_meets_at_random(self):
        rng = random.Random(18)
        for _ in range(120):
            book = Book.read(random_book_text(rng))
            for rule in book:
                for kind in product((False, True), repeat=len(book.tests)):
                    wished = [(wish, entry) for wish, entry in zip(rule.own, kind) if wish is not None]
                    self.assertIs(rule.fits(kind), all(wish == entry for wish, entry in wished))
                for marks, standings in product(ordered_parts(book.marks), ordered_parts(book.standings)):
                    met = all(wish in (None, name in marks) for wish, name in zip(rule.thread, book.marks))
                    met = met and all(wish in (None, name in standings) for wish,
                                      name in zip(rule.sender, book.standings))
                    self.assertIs(rule.meets(marks, list(standings)), met)


class Turnable(unittest.TestCase):
    def test_turnable(self):
        cases = {
            "rule coming mark a": True, "rule coming mark a if test 1, not thread b": True,
            "rule coming mark a if sender a": False, "rule coming mark a if not sender c, test 1": False,
            "rule coming standing a": False, "rule coming standing c if test 1": False,
            "rule always mark a": False, "rule always mark a if thread b": False,
        }
        for row, right in cases.items():
            self.assertIs(rule_of(row).turnable, right, row)


class Values(unittest.TestCase):
    def test_modes(self):
        self.assertEqual((Mode.COMING, Mode.ALWAYS), ("coming", "always"))
        self.assertEqual(rule_of("rule always mark a").mode, Mode.ALWAYS)
        self.assertEqual(rule_of("rule coming mark a").mode, Mode.COMING)

    def test_attributes_are_tuples(self):
        rule = rule_of("rule coming mark a if sender c")
        for value in (rule.marks, rule.standings, rule.own, rule.thread, rule.sender):
            self.assertIsInstance(value, tuple)
        self.assertEqual((rule.own, rule.thread, rule.sender), ((None, None), (None, None), (None, True)))
        self.assertIsInstance(rule, Rule)

    def test_written(self):
        rule = rule_of("rule coming mark a if sender c, not thread b, test 2, not sender a, thread a, not test 1")
        told = "rule coming mark a if not test 1, test 2, thread a, not thread b, not sender a, sender c"
        self.assertEqual(rule.written(), told)

    def test_equality(self):
        book = Book.read(GROUND + "rule coming mark a if test 1\nrule coming mark a if test 1\nrule coming mark a")
        self.assertIs(book[1] == book[2], True)
        self.assertIs(book[1] != book[2], False)
        self.assertIs(book[1] == book[3], False)
        for row in ("rule coming mark b", "rule coming standing a", "rule always mark a",
                    "rule coming mark a if thread b"):
            self.assertIs(book[3] == rule_of(row), False)
        self.assertIs(rule_of("rule coming mark a") == Book.read("mark a\nrule coming mark a")[1], True)
        for other in (None, book[1].written(), 1):
            self.assertIs(book[1] == other, False)

    def test_errors(self):
        for made, name in ((BadBook, "row"), (NoRule, "number"), (NotTurnable, "number")):
            error = made(7)
            self.assertEqual(getattr(error, name), 7)
            self.assertIsInstance(error, MailError)


if __name__ == "__main__":
    unittest.main()
