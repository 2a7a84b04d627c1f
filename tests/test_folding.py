"""Folds of edits: [96]."""

import random
import unittest
from itertools import permutations

from filedalike.book import Book
from filedalike.folding import Fold, NotFree, checked
from filedalike.orders import judge
from filedalike.rules import BadBook
from filedalike.strata import RingThroughLacks
from tests.devicemodel import folded, random_free_book, random_text, reason_against
from tests.models import random_book_text

GROUND = "mark a\nmark b by hand\nstanding s\ntest word x"
FREE = "rule coming mark a if test 1"
BINDING = "rule coming mark b if not thread a"
RINGED = "rule always mark a if not thread a"


def book_of(*rows):
    return Book.read("\n".join((GROUND,) + rows))


def place(clock, device="ann", number=1):
    return clock, device, number


class Checked(unittest.TestCase):
    def check(self, call, made, name, value):
        with self.assertRaises(made) as caught:
            call()
        self.assertEqual(getattr(caught.exception, name), value)

    def test_free_books(self):
        self.assertIsNone(checked(book_of()))
        self.assertIsNone(checked(book_of(FREE)))

    def test_rings_and_bound_books(self):
        for function in (checked, Fold):
            self.check(lambda: function(book_of(FREE, RINGED)), RingThroughLacks, "ring", ((2, "a", "a"),))
            self.check(lambda: function(book_of(FREE, BINDING)), NotFree, "kind", (False,))
            self.check(
                lambda: function(book_of("rule coming mark a if test 1, not thread a")), NotFree, "kind", (True,)
            )
            # A ring is told ahead of a departure.
            self.check(lambda: function(book_of(FREE, BINDING, RINGED)), RingThroughLacks, "ring", ((3, "a", "a"),))

    def test_the_kind_is_that_of_the_verdict(self):
        rng = random.Random(111)
        told = set()
        for _ in range(100):
            book = Book.read(random_book_text(rng))
            reason = reason_against(book)
            told.add(reason)
            if reason is None:
                self.assertIsNone(checked(book))
            elif reason == "ring":
                self.check(lambda: checked(book), RingThroughLacks, "ring", book.ring)
            else:
                self.check(lambda: checked(book), NotFree, "kind", judge(book).kind)
        self.assertEqual(told, {None, "ring", "bound"})


class Folds(unittest.TestCase):
    def told(self, fold):
        return fold.book.written(), fold.taken, fold.passed

    def test_without_edits(self):
        fold = Fold(book_of(FREE))
        self.assertEqual(self.told(fold), (book_of(FREE).written(), (), ()))

    def test_slots(self):
        fold = Fold(book_of(FREE))
        second, fifth = "rule always mark a if thread b", "rule coming standing s"
        self.assertIs(fold.put(place(1), 5, fifth), True)
        self.assertEqual(fold.book, book_of(FREE, fifth))
        self.assertIs(fold.put(place(2), 3, second), True)
        # Rules are numbered in the order of the slots.
        self.assertEqual(fold.book, book_of(FREE, second, fifth))
        self.assertIs(fold.put(place(3), 1, None), True)
        self.assertEqual(fold.book, book_of(second, fifth))
        self.assertIs(fold.put(place(4), 3, fifth), True)
        self.assertEqual(fold.book, book_of(fifth, fifth))
        self.assertIs(fold.put(place(5), 2, None), True)
        self.assertEqual(self.told(fold), (book_of(fifth, fifth).written(), tuple(place(k) for k in range(1, 6)), ()))

    def test_edits_that_are_passed_over(self):
        fold = Fold(book_of(FREE))
        self.assertIs(fold.put(place(1), 2, BINDING), True)
        self.assertIs(fold.put(place(2), 2, RINGED), True)
        self.assertEqual(self.told(fold), (book_of(FREE).written(), (), ((place(1), "bound"), (place(2), "ring"))))
        # A book with a ring that would be bound without it has the reason "ring".
        self.assertIs(fold.put(place(3), 1, "rule always mark a if not thread a, test 1"), True)
        self.assertEqual(fold.passed[2], (place(3), "ring"))
        # An edit that was passed over does not stay for later ones.
        self.assertIs(fold.put(place(4), 1, None), True)
        self.assertEqual((fold.book, fold.taken), (book_of(), (place(4),)))

    def test_edits_that_become_known_late(self):
        seeing, stamping = "rule coming standing s if not thread a", FREE
        fold = Fold(book_of())
        fold.put(place(5), 2, seeing)
        self.assertEqual(self.told(fold), (book_of(seeing).written(), (place(5),), ()))
        # With a stamp that it sees, the rule is bound.
        fold.put(place(3), 1, stamping)
        self.assertEqual(self.told(fold), (book_of(stamping).written(), (place(3),), ((place(5), "bound"),)))
        fold.put(place(4), 1, None)
        self.assertEqual(self.told(fold), (book_of(seeing).written(), (place(3), place(4), place(5)), ()))

    def test_places_are_compared_as_tuples(self):
        rows = ["rule coming standing s if test 1", "rule coming standing s if not test 1", "rule coming standing s"]
        places = [place(2, "b", 1), place(10, "a", 1), place(10, "a", 2), place(10, "b", 1)]
        for order in permutations(range(4)):
            fold = Fold(book_of())
            for at in order:
                fold.put(places[at], 1, (rows + [FREE])[at])
            self.assertEqual(self.told(fold), (book_of(FREE).written(), tuple(places), ()))

    def test_a_place_that_is_known(self):
        fold = Fold(book_of(FREE))
        fold.put(place(1), 2, "rule coming standing s")
        before = self.told(fold)
        self.assertIs(fold.put(place(1), 1, None), False)
        self.assertIs(fold.put(place(1), 2, "rule coming standing s"), False)
        self.assertEqual(self.told(fold), before)
        fold.put(place(2), 2, BINDING)
        self.assertIs(fold.put(place(2), 3, None), False)
        self.assertIs(fold.put(place(1, "ann", 2), 3, None), True)

    def test_texts_that_are_no_rule_rows(self):
        fold = Fold(book_of(FREE))
        fold.put(place(1), 2, None)
        before = self.told(fold)
        texts = (
            "", "rule", "mark c", "rule coming mark c", "rule coming mark a if test 2",
            "rule coming mark a if sender u",
            " rule coming mark a", "rule coming mark a\n", "rule always standing s", "rule coming mark a if ",
        )
        for text in texts:
            for at in (place(1), place(2)):
                with self.assertRaises(BadBook) as caught:
                    fold.put(at, 2, text)
                self.assertEqual(caught.exception.row, 1)
            with self.assertRaises(BadBook) as caught:
                fold.trial(1, text)
            self.assertEqual(caught.exception.row, 1)
        self.assertEqual(self.told(fold), before)
        self.assertIs(fold.put(place(2), 2, None), True)

    def test_wishes_in_any_order(self):
        fold = Fold(book_of())
        fold.put(place(1), 1, "rule always mark a if thread b, test 1")
        self.assertEqual(fold.book, book_of("rule always mark a if test 1, thread b"))

    def test_trials(self):
        fold = Fold(book_of(FREE))
        fold.put(place(1), 3, "rule coming standing s")
        before = self.told(fold)
        self.assertEqual(fold.trial(2, FREE), book_of(FREE, FREE, "rule coming standing s"))
        self.assertEqual(fold.trial(3, None), book_of(FREE))
        # Also books that would not be taken.
        self.assertEqual(fold.trial(2, RINGED), book_of(FREE, RINGED, "rule coming standing s"))
        self.assertEqual(fold.trial(2, BINDING), book_of(FREE, BINDING, "rule coming standing s"))
        self.assertEqual(self.told(fold), before)

    def test_many_edits(self):
        fold = Fold(book_of())
        texts = [FREE, None, BINDING, "rule always mark b if thread a", RINGED]
        edits = [(place(100 - at), at % 5 + 1, texts[at * 7 % 5]) for at in range(40)]
        for edit in edits:
            self.assertIs(fold.put(*edit), True)
        book, taken, passed = folded(book_of(), edits)
        self.assertEqual(self.told(fold), (book.written(), taken, passed))
        self.assertEqual(len(taken) + len(passed), 40)

    def test_at_random(self):
        rng = random.Random(112)
        reasons = set()
        for _ in range(60):
            book, *ground = random_free_book(rng)
            fold, edits = Fold(book), []
            for number in range(rng.randint(0, 8)):
                edit = ((rng.randint(1, 4), rng.choice("ab"), number + 1), rng.randint(1, 5), random_text(rng, ground))
                edits.append(edit)
                self.assertIs(fold.put(*edit), True)
                last, taken, passed = folded(book, edits)
                self.assertEqual(self.told(fold), (last.written(), taken, passed))
                reasons |= {reason for _, reason in passed}
                slot, text = rng.randint(1, 5), random_text(rng, ground)
                if not fold.passed:
                    told, _, more = folded(book, edits + [((9, "z", 1), slot, text)])
                    if not more:
                        self.assertEqual(fold.trial(slot, text), told)
        self.assertEqual(reasons, {"ring", "bound"})


if __name__ == "__main__":
    unittest.main()
