"""What the arrival of one letter does: [61]."""

import random
import unittest

from filedalike.always import View, fitting, thread_marks
from filedalike.book import Book
from filedalike.stamps import Stamp, stamp
from filedalike.strata import RingThroughLacks
from filedalike.views import Step, step
from tests.housemodel import always_numbers, in_order, stamp_pair
from tests.models import marks_had, ordered_parts, possible_kinds, random_book_text

GROUND = "mark c by hand\nmark a\nmark b\nstanding v\nstanding u\ntest word x\ntest words 3"


def book_of(*rows):
    return Book.read("\n".join((GROUND,) + rows))


class Steps(unittest.TestCase):
    def check(self, told, book, view, standings, kind):
        found = step(book, view, standings, kind)
        self.assertIsInstance(found, Step)
        self.assertIsInstance(found.stamp, Stamp)
        self.assertIsInstance(found.view, View)
        self.assertIsInstance(found.standings, tuple)
        self.assertEqual(((found.stamp.marks, found.stamp.standings), found.view.key(), found.standings), told)

    def test_nothing_is_joined(self):
        book = book_of(
            "rule coming mark b if test 1", "rule always mark a if test 1", "rule always mark c if not test 1",
        )
        self.check(((("b",), ()), (("b",), (2,)), ()), book, View(), (), (True, False))
        self.check((((), ()), ((), (3,)), ()), book, View(), (), (False, False))

    def test_a_mark_that_an_always_rule_gives_is_seen_but_not_put(self):
        book = book_of(
            "rule always mark a if thread c", "rule coming mark b if thread a",
            "rule coming standing v if not thread c",
        )
        self.check(((("b",), ()), (("b", "c"), (1,)), ()), book, View(["c"], [1]), (), (False, False))
        self.check((((), ("v",)), ((), (1,)), ("v",)), book, View(), (), (False, False))

    def test_the_letter_itself_is_not_seen(self):
        book = book_of("rule always mark a", "rule coming mark b if thread a")
        self.check((((), ()), ((), (1,)), ()), book, View(), (), (True, True))
        self.check(((("b",), ()), (("b",), (1,)), ()), book, View([], [1]), (), (True, True))

    def test_standings_in_book_order(self):
        book = book_of("rule coming standing v if sender u", "rule coming standing u if sender u")
        self.check((((), ("v", "u")), ((), ()), ("v", "u")), book, View(), ("u",), (True, True))
        self.check((((), ()), ((), ()), ("v",)), book, View(), ("v",), (True, True))
        book = book_of("rule coming standing v")
        self.check((((), ("v",)), ((), ()), ("v", "u")), book, View(), ("u",), (False, True))

    def test_views_are_in_alphabetical_order(self):
        book = book_of("rule coming mark a", "rule coming mark b")
        self.check(((("a", "b"), ()), (("a", "b", "c"), ()), ()), book, View(["c"]), (), (True, True))

    def test_what_is_passed_stays(self):
        book, view = book_of("rule coming mark a", "rule always mark b"), View(["c"])
        step(book, view, ("u",), (True, True))
        self.assertEqual(view.key(), (("c",), ()))

    def test_a_ring_comes_first(self):
        book = book_of("rule always mark a if not thread a", "rule coming mark b")
        for kind in ((True, True), ()):
            with self.assertRaises(RingThroughLacks) as caught:
                step(book, View(["b"], [1]), ("u",), kind)
            self.assertEqual(caught.exception.ring, ((1, "a", "a"),))

    def test_steps_at_random(self):
        rng = random.Random(81)
        for _ in range(120):
            book = Book.read(random_book_text(rng))
            if book.ring is not None:
                continue
            always = [rule.number for rule in book if rule.mode == "always"]
            for kind in possible_kinds(book.tests):
                for _ in range(6):
                    marks = [mark for mark in book.marks if rng.random() < 0.4]
                    view = View(marks, [number for number in always if rng.random() < 0.5])
                    standings = rng.choice(ordered_parts(book.standings))
                    had = marks_had(book, view.marks, view.rules)
                    pair, _ = stamp_pair(book, kind, had, standings)
                    key = (
                        tuple(sorted(set(view.marks) | set(pair[0]))),
                        tuple(sorted(set(view.rules) | set(always_numbers(book, kind)))),
                    )
                    after = in_order(book.standings, set(standings) | set(pair[1]))
                    self.check((pair, key, after), book, view, standings, kind)
                    found = step(book, view, standings, kind)
                    self.assertEqual(found.stamp, stamp(book, kind, thread_marks(book, view), standings))
                    self.assertEqual(found.view, view | View(found.stamp.marks, fitting(book, kind)))


if __name__ == "__main__":
    unittest.main()
