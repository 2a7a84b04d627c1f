"""Dependences, rings and strata: [39], [40]."""

import random
import unittest

from filedalike.book import Book
from filedalike.errors import MailError
from filedalike.strata import RingThroughLacks
from tests.models import least_ring, least_strata, random_book_text

MARKS = "mark a\nmark b\nmark c\nstanding s\ntest word x\ntest words 1\n"


def book_of(*rows):
    return Book.read(MARKS + "\n".join(rows)) if rows else Book.read(MARKS[:-1])


class Rings(unittest.TestCase):
    def check(self, ring, *rows):
        book = book_of(*rows)
        self.assertEqual(book.ring, ring)
        self.assertEqual(book.strata is None, ring is not None)
        if ring is None:
            self.assertIs(book.ring, None)
        else:
            self.assertIsInstance(book.ring, tuple)
            with self.assertRaises(RingThroughLacks) as caught:
                book.layers()
            self.assertEqual(caught.exception.ring, ring)
            self.assertIsInstance(caught.exception, MailError)

    def test_one_step(self):
        self.check(((1, "a", "a"),), "rule always mark a if not thread a")
        self.check(None, "rule always mark a if thread a")

    def test_coming_rules_make_no_ring(self):
        self.check(None, "rule coming mark a if not thread a", "rule coming mark b if not thread c, thread a")
        self.check(None, "rule coming mark a if not thread b", "rule always mark b if not thread a")

    def test_rules_that_fit_no_kind_make_rings(self):
        self.check(((1, "a", "a"),), "rule always mark a if test 1, not test 2, not thread a")

    def test_two_and_three_steps(self):
        self.check(((1, "a", "b"), (2, "b", "a")), "rule always mark a if not thread b",
                   "rule always mark b if thread a")
        self.check(((2, "b", "a"), (1, "a", "b")), "rule always mark a if thread b",
                   "rule always mark b if not thread a")
        self.check(((3, "c", "a"), (1, "a", "b"), (2, "b", "c")), "rule always mark a if thread b",
                   "rule always mark b if thread c", "rule always mark c if not thread a")
        self.check(None, "rule always mark a if thread b", "rule always mark b if thread c",
                   "rule always mark c if thread a")
        self.check(None, "rule always mark a if not thread b", "rule always mark b if not thread c",
                   "rule always mark a if not thread c")

    def test_fewer_steps_come_first(self):
        self.check(((3, "c", "c"),), "rule always mark a if not thread b", "rule always mark b if thread a",
                   "rule always mark c if not thread c")

    def test_the_least_number_comes_first(self):
        self.check(((1, "a", "b"), (3, "b", "a")), "rule always mark a if not thread b",
                   "rule always mark a if not thread b", "rule always mark b if not thread a",
                   "rule always mark b if not thread a")
        self.check(((1, "b", "a"), (2, "a", "b")), "rule always mark b if not thread a",
                   "rule always mark a if not thread b")
        self.check(((2, "b", "b"),), "rule always mark a if thread b", "rule always mark b if not thread b",
                   "rule always mark a if not thread a")

    def test_the_place_of_the_mark_decides_then(self):
        self.check(((1, "a", "b"), (2, "b", "a")), "rule always mark a if not thread b, not thread c",
                   "rule always mark b if thread a", "rule always mark c if thread a")
        self.check(((1, "a", "b"), (3, "b", "a")), "rule always mark a if not thread c, not thread b",
                   "rule always mark c if thread a", "rule always mark b if thread a")

    def test_book_order_is_not_the_alphabet(self):
        book = Book.read("mark c\nmark b\nmark a\nrule always mark a if not thread b, not thread c\n"
                         "rule always mark b if thread a\nrule always mark c if thread a")
        self.assertEqual(book.ring, ((1, "a", "c"), (3, "c", "a")))

    def test_later_steps_may_lack_too(self):
        self.check(((1, "a", "b"), (2, "b", "a")), "rule always mark a if not thread b",
                   "rule always mark b if not thread a")

    def test_the_error(self):
        error = RingThroughLacks(((1, "a", "a"),))
        self.assertEqual(error.ring, ((1, "a", "a"),))


class Strata(unittest.TestCase):
    def check(self, strata, *rows):
        book = book_of(*rows)
        self.assertEqual(book.strata, strata)
        self.assertIsInstance(book.strata, tuple)
        layers = [[mark for mark, at in zip("abc", strata) if at == layer] for layer in range(max(strata) + 1)]
        self.assertEqual(book.layers(), layers)

    def test_strata(self):
        self.check((0, 0, 0))
        self.check((1, 0, 0), "rule always mark a if not thread b")
        self.check((0, 0, 0), "rule always mark a if thread b", "rule always mark b if thread a")
        self.check((2, 1, 0), "rule always mark a if not thread b", "rule always mark b if not thread c")
        self.check((0, 1, 2), "rule always mark c if not thread b", "rule always mark b if not thread a")
        self.check((1, 1, 0), "rule always mark a if thread b", "rule always mark b if not thread c",
                   "rule always mark b if thread a")
        self.check((1, 0, 1), "rule always mark a if thread c", "rule always mark c if not thread b")
        self.check((1, 0, 0), "rule always mark a if test 1, not test 2, not thread b")
        self.check((0, 0, 0), "rule coming mark a if not thread b")

    def test_strata_at_random(self):
        rng = random.Random(19)
        rings = 0
        for _ in range(400):
            book = Book.read(random_book_text(rng, "always"))
            self.assertEqual(book.ring, least_ring(book), book.written())
            self.assertEqual(book.strata, least_strata(book), book.written())
            self.assertEqual(book.ring is None, book.strata is not None)
            rings += book.ring is not None
        self.assertTrue(50 < rings < 350)


if __name__ == "__main__":
    unittest.main()
