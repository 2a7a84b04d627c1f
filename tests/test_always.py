"""Views and always-rules: [42] to [44]."""

import random
import unittest
from itertools import product

from filedalike.always import View, borne, fitting, thread_marks, view_of
from filedalike.book import Book
from filedalike.strata import RingThroughLacks
from tests.models import marks_had, ordered_parts, possible_kinds, random_book_text

GROUND = "mark c by hand\nmark a\nmark b\nstanding s\ntest word x\ntest words 3\n"


def book_of(*rows):
    return Book.read(GROUND + "\n".join(rows))


class Views(unittest.TestCase):
    def test_attributes(self):
        view = View(["b", "a", "b"], (3, 1, 3))
        self.assertEqual((view.marks, view.rules, view.key()), (("a", "b"), (1, 3), (("a", "b"), (1, 3))))
        for value in (view.marks, view.rules, view.key()):
            self.assertIsInstance(value, tuple)
        self.assertEqual(View(("b", "a"), [2, 1]).key(), (("a", "b"), (1, 2)))
        self.assertEqual(View(list("hgfedcba"), [65, 33, 1]).key(), (tuple("abcdefgh"), (1, 33, 65)))
        self.assertEqual(View().key(), ((), ()))
        self.assertEqual(View(marks=["a"]).key(), (("a",), ()))
        self.assertEqual(View(rules=[2]).key(), ((), (2,)))

    def test_lists_are_copied(self):
        marks, rules = ["b", "a"], [2, 1]
        view = View(marks, rules)
        self.assertEqual((marks, rules), (["b", "a"], [2, 1]))
        marks.append("c")
        rules.clear()
        self.assertEqual(view.key(), (("a", "b"), (1, 2)))

    def test_unions(self):
        first, second = View(["b"], [3, 1]), View(["a", "b"], [2, 3])
        both = first | second
        self.assertEqual(both.key(), (("a", "b"), (1, 2, 3)))
        self.assertIsInstance(both, View)
        self.assertEqual((first.key(), second.key()), ((("b",), (1, 3)), (("a", "b"), (2, 3))))
        self.assertEqual((first | View()).key(), first.key())
        self.assertIsNot(first | View(), first)
        self.assertEqual((View() | second).key(), second.key())

    def test_equality(self):
        view = View(["a"], [1])
        self.assertIs(view == View(("a", "a"), (1,)), True)
        self.assertIs(view != View(("a", "a"), (1,)), False)
        for other in (View(["a"]), View([], [1]), View(["b"], [1]), View(["a"], [2]), View(["a", "b"], [1]), None,
                      view.key(), 1):
            self.assertIs(view == other, False)
        self.assertIs(View() == View(), True)


class ThreadMarks(unittest.TestCase):
    def check(self, had, book, marks=(), rules=()):
        found = thread_marks(book, View(marks, rules))
        self.assertEqual(found, had)
        self.assertIsInstance(found, tuple)

    def test_put_marks(self):
        book = book_of("rule always mark a if thread b")
        self.check((), book)
        self.check(("c", "b"), book, ["b", "c"])
        self.check(("c", "a", "b"), book, ["a", "b", "c"])

    def test_fitting_rules_give(self):
        book = book_of("rule always mark a if thread b", "rule always mark b")
        self.check(("a", "b"), book, [], [1, 2])
        self.check(("b",), book, [], [2])
        self.check((), book, [], [1])
        self.check(("a", "b"), book, ["b"], [1])

    def test_rules_of_a_kind_do_not_matter_but_their_numbers(self):
        book = book_of("rule always mark a if test 1, not test 2")
        self.check(("a",), book, [], [1])

    def test_lacks_are_asked_behind_the_stratum(self):
        book = book_of("rule always mark c if not thread a", "rule always mark a if thread b", "rule always mark b")
        self.check(("a", "b"), book, [], [1, 2, 3])
        self.check(("c", "b"), book, [], [1, 3])
        self.check(("c",), book, [], [1, 2])
        self.check(("c", "a"), book, ["c", "a"], [1])

    def test_three_strata(self):
        book = book_of("rule always mark a if not thread b", "rule always mark b if not thread c")
        self.check(("b",), book, [], [1, 2])
        self.check(("c", "a"), book, ["c"], [1, 2])
        self.check(("a",), book, [], [1])

    def test_marks_that_wait_for_each_other(self):
        book = book_of("rule always mark a if thread b", "rule always mark b if thread a")
        self.check((), book, [], [1, 2])
        self.check(("a", "b"), book, ["a"], [1, 2])

    def test_what_the_book_lacks_counts_for_nothing(self):
        book = book_of("rule coming mark a", "rule always mark b if not thread a")
        self.check(("b",), book, ["zzz", "s"], [1, 2, 3, 0, 99])
        self.check(("c",), book, ["c", "x"], [1])
        self.check((), Book.read(""), ["c"], [1, 2])

    def test_rings_come_first(self):
        book = book_of("rule always mark a if not thread b", "rule always mark b if thread a")
        for view in (View(), View(["zz"], [77]), View(["a"], [1])):
            with self.assertRaises(RingThroughLacks) as caught:
                thread_marks(book, view)
            self.assertEqual(caught.exception.ring, ((1, "a", "b"), (2, "b", "a")))

    def test_thread_marks_at_random(self):
        rng = random.Random(21)
        free = 0
        for _ in range(150):
            book = Book.read(random_book_text(rng, rng.choice(["always", None])))
            numbers = [rule.number for rule in book]
            if book.ring is not None:
                with self.assertRaises(RingThroughLacks) as caught:
                    thread_marks(book, View())
                self.assertEqual(caught.exception.ring, book.ring)
                continue
            free += 1
            for marks, rules in product(ordered_parts(book.marks), ordered_parts(numbers)):
                self.check(marks_had(book, marks, rules), book, marks, rules)
        self.assertTrue(free > 60)


class Letters(unittest.TestCase):
    ROWS = (
        "rule always mark a if test 1", "rule coming mark b if test 1", "rule always mark b if not test 2, thread a",
        "rule always mark c if not thread a", "rule always mark a",
    )

    def setUp(self):
        self.book = book_of(*self.ROWS)

    def test_fitting(self):
        told = {(False, False): (3, 4, 5), (False, True): (4, 5), (True, False): (1, 3, 4, 5), (True, True): (1, 4, 5)}
        for kind, numbers in told.items():
            self.assertEqual(fitting(self.book, kind), numbers)
            self.assertIsInstance(fitting(self.book, kind), tuple)
        self.assertEqual(fitting(Book.read(""), ()), ())

    def test_borne(self):
        book = book_of(*self.ROWS[:4])
        self.assertEqual(borne(book, (False, True), [], []), ("c",))
        self.assertEqual(borne(book, (False, True), [], ["a"]), ())
        self.assertEqual(borne(book, (True, True), ["b"], ("a",)), ("a", "b"))
        self.assertEqual(borne(book, (True, False), (), ["b", "a"]), ("a", "b"))
        self.assertEqual(borne(book, (True, False), ("b", "c"), ()), ("c", "a", "b"))
        self.assertEqual(borne(book, (False, True), ["b", "a"], ["a", "b"]), ("a", "b"))
        self.assertEqual(borne(book, (False, True), (), ("c", "a")), ())
        self.assertIsInstance(borne(book, (False, True), [], []), tuple)

    def test_view_of(self):
        book = self.book
        self.assertEqual(view_of(book, []), View())
        parts = [((False, True), ["b", "a"]), ((True, True), ("a", "c")), ((False, True), ())]
        self.assertEqual(view_of(book, parts), View(["a", "b", "c"], [1, 4, 5]))
        self.assertEqual(view_of(book, parts[:1]), View(["a", "b"], [4, 5]))
        self.assertEqual(view_of(book, [((False, False), [])]).key(), ((), (3, 4, 5)))
        self.assertEqual(parts[0], ((False, True), ["b", "a"]))

    def test_books_with_a_ring_are_told_too(self):
        book = book_of("rule always mark a if not thread a")
        self.assertEqual(fitting(book, (True, True)), (1,))
        self.assertEqual(borne(book, (True, True), [], ["b"]), ("a",))
        self.assertEqual(view_of(book, [((True, True), ["b"])]), View(["b"], [1]))

    def test_a_thread_has_what_its_letters_bear(self):
        rng = random.Random(22)
        for _ in range(200):
            book = Book.read(random_book_text(rng, "always"))
            if book.ring is not None:
                continue
            possible = possible_kinds(book.tests)
            parts = [
                (rng.choice(possible), [mark for mark in book.marks if rng.random() < 0.2])
                for _ in range(rng.randint(0, 4))
            ]
            had = thread_marks(book, view_of(book, parts))
            bears = [borne(book, kind, own, had) for kind, own in parts]
            self.assertEqual(had, tuple(mark for mark in book.marks if any(mark in marks for marks in bears)))


if __name__ == "__main__":
    unittest.main()
