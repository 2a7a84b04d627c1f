"""Stamps and walks: [50] to [52]."""

import random
import unittest

from filedalike.book import Book
from filedalike.stamps import Stamp, empty_stamp, stamp, walk
from tests.housemodel import stamp_pair
from tests.models import ordered_parts, possible_kinds, random_book_text

GROUND = "mark c\nmark a\nmark b\nstanding v\nstanding u\ntest word x\ntest words 3"


def book_of(*rows):
    return Book.read("\n".join((GROUND,) + rows))


class Stamps(unittest.TestCase):
    def test_attributes(self):
        marks, standings, rules = ["b", "a"], ["u"], [3, 1]
        made = Stamp(marks, standings, rules)
        self.assertEqual((made.marks, made.standings, made.rules), (("b", "a"), ("u",), (3, 1)))
        marks.clear()
        standings.append("z")
        rules.append(9)
        self.assertEqual((made.marks, made.standings, made.rules), (("b", "a"), ("u",), (3, 1)))
        self.assertEqual(Stamp((), ()).rules, ())
        for value in (made.marks, made.standings, made.rules):
            self.assertIsInstance(value, tuple)

    def test_rules_do_not_count_in_equality(self):
        made = Stamp(["a"], ["u"], [1, 2])
        self.assertIs(made == Stamp(("a",), ("u",)), True)
        self.assertIs(made == Stamp(("a",), ("u",), (7,)), True)
        self.assertIs(made != Stamp(("a",), ("u",), (7,)), False)
        for other in (Stamp(["b"], ["u"], [1, 2]), Stamp(["a"], [], [1, 2]), Stamp([], ["u"], [1, 2]), None,
                      (("a",), ("u",)), Stamp(["a", "a"], ["u"], [1, 2])):
            self.assertIs(made == other, False)

    def test_written(self):
        self.assertEqual(Stamp([], []).written(), "nothing")
        self.assertEqual(Stamp([], [], [1]).written(), "nothing")
        self.assertEqual(Stamp(["b", "a"], ["v", "u"]).written(), "mark b, mark a, standing v, standing u")
        self.assertEqual(Stamp(["a"], []).written(), "mark a")
        self.assertEqual(Stamp([], ["u"]).written(), "standing u")


class Stamping(unittest.TestCase):
    def check(self, told, book, kind, marks=(), standings=()):
        given = list(marks), list(standings)
        found = stamp(book, kind, *given)
        self.assertEqual((found.marks, found.standings, found.rules), told)
        self.assertEqual(given, (list(marks), list(standings)))
        for value in told:
            self.assertIsInstance(value, tuple)

    def test_a_book_without_rules(self):
        self.check(((), (), ()), Book.read(""), ())
        self.check(((), (), ()), book_of(), (True, True), ["a"], ["u"])

    def test_rules_that_fit_and_meet_fire(self):
        book = book_of(
            "rule coming mark b if test 1", "rule coming mark a if not test 2, thread c", "rule always mark c",
            "rule coming standing u if not sender v", "rule coming mark c if thread c, sender v",
        )
        self.check((("b",), ("u",), (1, 4)), book, (True, True))
        self.check(((), ("u",), (4,)), book, (False, False))
        self.check((("a",), ("u",), (2, 4)), book, (False, False), ["c"])
        self.check((("c", "a"), (), (2, 5)), book, (False, False), ["c"], ["v"])
        self.check((("c", "a", "b"), (), (1, 2, 5)), book, (True, False), ["b", "c"], ["u", "v"])

    def test_a_gift_is_found_by_the_rules_behind_it(self):
        book = book_of(
            "rule coming mark a if thread b", "rule coming mark b", "rule coming mark c if thread b, sender u",
            "rule coming standing u", "rule coming standing v if thread b, sender u",
        )
        self.check((("b",), ("v", "u"), (2, 4, 5)), book, (False, False))
        self.check((("c", "b"), ("v", "u"), (2, 3, 4, 5)), book, (False, False), [], ["u"])
        self.check((("a", "b"), ("v", "u"), (1, 2, 4, 5)), book, (False, False), ["b"])

    def test_a_gift_bars_the_rules_behind_it(self):
        book = book_of(
            "rule coming mark a if not thread a", "rule coming mark a if not thread a",
            "rule coming mark b if not sender v",
        )
        self.check((("a", "b"), (), (1, 3)), book, (False, False))
        self.check((("b",), (), (3,)), book, (False, False), ["a"])

    def test_a_gift_that_was_seen_or_got_is_in_the_stamp(self):
        book = book_of(
            "rule coming mark a", "rule coming mark a if thread a", "rule coming standing u", "rule coming standing u",
        )
        self.check((("a",), ("u",), (1, 2, 3, 4)), book, (False, False), ["a", "b"], ["u", "v"])

    def test_what_is_seen_alone_is_not(self):
        self.check((("b",), (), (1,)), book_of("rule coming mark b"), (False, False), ["a", "c"], ["u"])

    def test_seen_names_in_any_order(self):
        book = book_of("rule coming mark b if thread a, thread c, sender u, sender v")
        self.check((("b",), (), (1,)), book, (False, False), ["a", "c"], ["u", "v"])
        self.check((("b",), (), (1,)), book, (False, False), ("c", "a"), ("v", "u"))

    def test_books_with_a_ring_stamp_too(self):
        book = book_of("rule always mark a if not thread a", "rule coming mark b")
        self.check((("b",), (), (2,)), book, (False, False))

    def test_empty_stamps(self):
        book = book_of(
            "rule coming mark a if test 1", "rule coming mark b if thread a", "rule coming standing u if sender u",
        )
        found = empty_stamp(book, (True, False))
        self.assertEqual((found.marks, found.standings, found.rules), (("a", "b"), (), (1, 2)))
        self.assertEqual(empty_stamp(book, (False, False)).written(), "nothing")

    def test_stamps_and_walks_at_random(self):
        rng = random.Random(41)
        many = 0
        for _ in range(150):
            book = Book.read(random_book_text(rng, rng.choice(["coming", None])))
            for kind in possible_kinds(book.tests):
                for marks in ordered_parts(book.marks):
                    for standings in ordered_parts(book.standings):
                        pair, fired = stamp_pair(book, kind, marks, standings)
                        self.check((*pair, fired), book, kind, marks, standings)
                        walked = walk(book, kind, marks, standings)
                        coming = [rule.number for rule in book if rule.mode == "coming"]
                        self.assertEqual([number for number, _ in walked], coming)
                        self.assertEqual(tuple(number for number, bar in walked if bar is None), fired)
                        many += len(fired)
        self.assertTrue(many > 500)


class Walks(unittest.TestCase):
    def check(self, told, book, kind, marks=(), standings=()):
        found = walk(book, kind, marks, standings)
        self.assertIsInstance(found, list)
        self.assertEqual(found, told)

    def test_no_rules(self):
        self.check([], book_of(), (True, True))
        self.check([], book_of("rule always mark a"), (True, True))

    def test_numbers_of_the_coming_rules(self):
        book = book_of("rule always mark a", "rule coming mark b", "rule always mark b", "rule coming mark a if test 1")
        self.check([(2, None), (4, ("test", 1))], book, (False, True))

    def test_the_first_wish_that_does_not_hold(self):
        book = book_of("rule coming mark b if sender u, sender v, thread a, not thread c, not test 2, test 1")
        self.check([(1, ("test", 1))], book, (False, True), ["c"])
        self.check([(1, ("test", 2))], book, (True, True), ["c"])
        self.check([(1, ("thread", "c"))], book, (True, False), ["c"])
        self.check([(1, ("thread", "a"))], book, (True, False), ["b"])
        self.check([(1, ("sender", "v"))], book, (True, False), ["a"])
        self.check([(1, ("sender", "u"))], book, (True, False), ["a"], ["v"])
        self.check([(1, None)], book, (True, False), ["a"], ["u", "v"])

    def test_bars_speak_of_what_was_got_so_far(self):
        book = book_of(
            "rule coming mark a", "rule coming mark b if not thread a", "rule coming standing u if thread a",
            "rule coming standing v if not sender u", "rule coming mark c if not sender u, thread b",
        )
        self.check(
            [(1, None), (2, ("thread", "a")), (3, None), (4, ("sender", "u")), (5, ("thread", "b"))],
            book, (False, False),
        )


if __name__ == "__main__":
    unittest.main()
