"""Turnings: [78] to [82]."""

import random
import unittest
from itertools import combinations

from filedalike.book import Book
from filedalike.leastsets import blockers, is_upward
from filedalike.orders import Bound, Free, judge
from filedalike.rules import NotTurnable
from filedalike.turnings import Turned, Turnings, turn, turnable
from tests.models import random_book_text

TEXT = "\n".join([
    "mark a", "mark b", "test word x", "rule coming mark a if test 1", "rule coming mark a if not thread b",
    "rule coming mark b if test 1, thread a",
])
MIXED = "\n".join([
    "mark a", "mark b", "standing v by hand", "test word x", "rule coming mark a if thread b", "rule always mark b",
    "rule coming standing v", "rule coming mark b if sender v", "rule coming mark b if not thread a, test 1",
])


def all_sets(numbers):
    return [part for many in range(len(numbers) + 1) for part in combinations(numbers, many)]


def told(family):
    return sorted(family, key=lambda numbers: (len(numbers), numbers))


class Turnable(unittest.TestCase):
    def test_turnable(self):
        self.assertEqual(turnable(Book.read(TEXT)), (1, 2, 3))
        self.assertEqual(turnable(Book.read(MIXED)), (1, 5))
        self.assertEqual(turnable(Book.read("")), ())
        self.assertIsInstance(turnable(Book.read(TEXT)), tuple)


class Turn(unittest.TestCase):
    def test_attributes(self):
        book = Book.read(TEXT)
        cases = ([2], (2,)), ((2, 2), (2,)), ([], ()), ((), ()), ([3, 1, 3], (1, 3)), ((3, 2, 1), (1, 2, 3))
        for numbers, chosen in cases:
            given = list(numbers)
            found = turn(book, numbers)
            self.assertIsInstance(found, Turned)
            self.assertEqual(list(numbers), given)
            self.assertEqual(found.chosen, chosen)
            self.assertIsInstance(found.chosen, tuple)
            self.assertEqual(found.book, book.turned(*chosen))
            self.assertEqual(found.ring, found.book.ring)

    def test_a_free_one(self):
        found = turn(Book.read(TEXT), [2])
        self.assertEqual((found.reason, found.is_good, found.ring), ("free", True, None))
        self.assertIsInstance(found.verdict, Free)
        self.assertEqual(found.verdict.book, found.book)
        self.assertEqual(str(found.book).split("\n")[4], "rule always mark a if not thread b")

    def test_one_that_is_not_free(self):
        found = turn(Book.read(TEXT), (1,))
        self.assertEqual((found.reason, found.is_good, found.ring), ("orders", False, None))
        self.assertIsInstance(found.verdict, Bound)

    def test_one_with_a_ring(self):
        found = turn(Book.read(TEXT), (2, 3))
        self.assertEqual((found.reason, found.is_good, found.verdict), ("ring", False, None))
        self.assertEqual(found.ring, ((2, "a", "b"), (3, "b", "a")))

    def test_the_first_wrong_number(self):
        book = Book.read(MIXED)
        turnings = Turnings(book)
        for numbers, wrong in (([2], 2), ((1, 3, 2), 3), ([5, 6, 0], 6), ((0,), 0), ([-1, 1], -1), ((1, 1, 4, 7), 4)):
            for call in (lambda: turn(book, numbers), lambda: turnings.turned(numbers)):
                with self.assertRaises(NotTurnable) as caught:
                    call()
                self.assertEqual(caught.exception.number, wrong)


class AllSets(unittest.TestCase):
    def test_the_document(self):
        turnings = Turnings(Book.read(TEXT))
        self.assertEqual([(each.chosen, each.reason) for each in turnings], [
            ((), "orders"), ((1,), "orders"), ((2,), "free"), ((3,), "orders"), ((1, 2), "orders"), ((1, 3), "orders"),
            ((2, 3), "ring"), ((1, 2, 3), "ring"),
        ])
        self.assertEqual(turnings.spoiled(), [((2,), 1), ((2,), 3)])
        self.assertEqual(turnings.good_sets(), [(2,)])
        self.assertEqual(turnings.least_sets(), [(2,)])
        self.assertEqual(turnings.needed(), (2,))
        self.assertEqual(turnings.mended(), Book.read(TEXT).turned(2))
        self.assertEqual(turnings.stuck(), [(2,)])
        self.assertEqual(len(turnings), 8)

    def test_a_book_that_is_free_as_it_is(self):
        book = Book.read("mark a\nmark b\ntest word x\nrule coming mark a if test 1")
        turnings = Turnings(book)
        self.assertIs(turnings.book, book)
        self.assertEqual(turnings.good_sets(), [(), (1,)])
        self.assertEqual(turnings.least_sets(), [()])
        self.assertEqual(turnings.needed(), ())
        self.assertEqual(turnings.mended(), book)
        self.assertEqual(turnings.spoiled(), [])
        self.assertEqual(turnings.stuck(), [])

    def test_a_book_that_no_set_makes_good(self):
        for text in (
            "mark a\nrule coming mark a if not thread a", "mark a\nstanding v\nrule coming standing v if not sender v",
            "mark a\nmark b\nrule always mark a if not thread a\nrule coming mark b",
        ):
            turnings = Turnings(Book.read(text))
            self.assertEqual((turnings.good_sets(), turnings.least_sets()), ([], []))
            self.assertIsNone(turnings.needed())
            self.assertIsNone(turnings.mended())
            self.assertEqual(turnings.spoiled(), [])
            self.assertEqual(turnings.stuck(), [()])

    def test_a_book_with_a_ring(self):
        turnings = Turnings(Book.read("mark a\nmark b\nrule always mark a if not thread a\nrule coming mark b"))
        self.assertEqual([(each.chosen, each.reason) for each in turnings], [((), "ring"), ((2,), "ring")])

    def test_no_turnable_rule(self):
        turnings = Turnings(Book.read(""))
        self.assertEqual((len(turnings), [each.chosen for each in turnings]), (1, [()]))
        self.assertEqual((turnings.good_sets(), turnings.needed(), turnings.stuck()), ([()], (), []))

    def test_the_one_of_a_set(self):
        turnings = Turnings(Book.read(TEXT))
        for numbers, chosen in (((), ()), ([], ()), ([3, 2, 3], (2, 3)), ((1,), (1,))):
            found = turnings.turned(numbers)
            self.assertIsInstance(found, Turned)
            self.assertEqual(found.chosen, chosen)
            self.assertIs(found, [each for each in turnings if each.chosen == chosen][0])

    def test_lists_that_a_caller_changed(self):
        turnings = Turnings(Book.read(TEXT))
        for ask in (turnings.good_sets, turnings.least_sets, turnings.spoiled, turnings.stuck):
            before = list(ask())
            ask().append(None)
            self.assertEqual(ask(), before)

    def test_the_largest_books(self):
        text = "\n".join([
            "mark a by hand", "mark b by hand", "mark c by hand", "standing s by hand", "test house elm", "test word x",
            "rule coming mark a if test 1, test 2", "rule coming mark b if test 1, not test 2",
            "rule coming mark c if not test 1, test 2, thread a", "rule coming mark a if not test 1, not test 2",
            "rule coming mark b if not thread a",
        ])
        self.check(Book.read(text))
        self.assertEqual(len(Turnings(Book.read(text))), 32)

    def check(self, book):
        turnings = Turnings(book)
        numbers = turnable(book)
        self.assertEqual(numbers, tuple(rule.number for rule in book.rules if rule.turnable))
        self.assertEqual([each.chosen for each in turnings], all_sets(numbers))
        self.assertEqual(len(turnings), 2 ** len(numbers))
        good = []
        for each in turnings:
            turned = book.turned(*each.chosen)
            self.assertEqual(each.book, turned)
            reason = "ring" if turned.ring else "free" if judge(turned).free else "orders"
            self.assertEqual((each.reason, each.is_good), (reason, reason == "free"))
            good += [each.chosen] if reason == "free" else []
            self.assertEqual(turn(book, each.chosen).reason, reason)
        self.assertEqual(turnings.good_sets(), good)
        least = [one for one in good if not any(set(other) < set(one) for other in good)]
        self.assertEqual(turnings.least_sets(), least)
        spoiled = [
            (one, number) for one in good for number in numbers
            if number not in one and tuple(sorted({*one, number})) not in good
        ]
        self.assertEqual(turnings.spoiled(), spoiled)
        self.assertEqual(not spoiled, is_upward(good, numbers))
        self.assertEqual(turnings.stuck(), blockers(good))
        if good:
            self.assertEqual(turnings.needed(), tuple(n for n in numbers if all(n in one for one in good)))
            self.assertEqual(turnings.mended(), book.turned(*least[0]))
        else:
            self.assertEqual((turnings.needed(), turnings.mended()), (None, None))
        return len(good), len(spoiled)

    def test_at_random(self):
        rng = random.Random(141)
        rows = [self.check(Book.read(random_book_text(rng, rng.choice(["coming", None])))) for _ in range(60)]
        self.assertTrue(sum(many > 0 for many, _ in rows) > 20)
        self.assertTrue(sum(spoiled > 0 for _, spoiled in rows) > 2)


if __name__ == "__main__":
    unittest.main()
