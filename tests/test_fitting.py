"""Unfit rules, alike kinds, coverings: [41]."""

import random
import unittest

from filedalike.book import Book
from filedalike.fitting import alike_kinds, coverings, unfit_rules
from tests.models import ordered_parts, possible_kinds, random_book_text

GROUND = "mark a\nmark b\nstanding s\ntest word x\ntest words 1\n"


def book_of(*rows):
    return Book.read(GROUND + "\n".join(rows)) if rows else Book.read(GROUND[:-1])


class Unfit(unittest.TestCase):
    def test_unfit_rules(self):
        book = book_of("rule coming mark a if test 1", "rule coming mark a if test 1, not test 2",
                       "rule always mark b if not test 2, test 1, thread a",
                       "rule coming standing s if not test 1, test 2")
        self.assertEqual(unfit_rules(book), [2, 3])
        self.assertEqual(unfit_rules(book_of()), [])
        self.assertEqual(unfit_rules(Book.read("")), [])
        found = unfit_rules(book)
        found.clear()
        self.assertEqual(unfit_rules(book), [2, 3])


class Alike(unittest.TestCase):
    def test_alike_kinds(self):
        first, second, third = (False, False), (False, True), (True, True)
        self.assertEqual(alike_kinds(book_of()), [[first, second, third]])
        self.assertEqual(alike_kinds(book_of("rule coming mark a if test 2")), [[first], [second, third]])
        self.assertEqual(alike_kinds(book_of("rule always mark a if not test 1")), [[first, second], [third]])
        self.assertEqual(alike_kinds(book_of("rule coming mark a if test 2, not test 1")), [[first, third], [second]])
        self.assertEqual(alike_kinds(book_of("rule coming mark a if test 2", "rule always mark b if test 1")),
                         [[first], [second], [third]])
        self.assertEqual(alike_kinds(book_of("rule coming mark a if test 1, not test 2")), [[first, second, third]])
        self.assertEqual(alike_kinds(Book.read("")), [[()]])

    def test_lists_are_new(self):
        book = book_of("rule coming mark a if test 2")
        alike_kinds(book)[0].clear()
        self.assertEqual(len(alike_kinds(book)[0]), 1)


class Coverings(unittest.TestCase):
    def test_coverings(self):
        self.assertEqual(coverings(book_of("rule coming mark a", "rule coming mark a if test 1")), [(1, 2)])
        self.assertEqual(coverings(book_of("rule coming mark a if thread b", "rule coming mark a")), [(2, 1)])
        self.assertEqual(coverings(book_of("rule coming mark a if thread b", "rule coming mark a if thread b")),
                         [(1, 2), (2, 1)])
        self.assertEqual(coverings(book_of("rule coming mark a if thread b", "rule coming mark a if not thread b")), [])
        self.assertEqual(coverings(book_of("rule coming mark a if sender s",
                                           "rule coming mark a if thread b, sender s")),
                         [(1, 2)])
        self.assertEqual(coverings(book_of("rule coming mark a if test 2", "rule coming mark a if test 1")), [(1, 2)])

    def test_mode_deed_and_gift_must_be_the_same(self):
        self.assertEqual(coverings(book_of("rule coming mark a", "rule always mark a")), [])
        self.assertEqual(coverings(book_of("rule coming mark a", "rule coming mark b")), [])
        book = Book.read("mark a\nstanding a\nrule coming mark a\nrule coming standing a")
        self.assertEqual(coverings(book), [])

    def test_unfit_rules_are_covered_by_all_of_their_deed(self):
        book = book_of("rule coming mark a if test 1, not test 2", "rule coming mark a if thread b",
                       "rule coming mark b", "rule coming mark a if not test 2, test 1, sender s")
        self.assertEqual(coverings(book), [(1, 4), (2, 1), (2, 4), (4, 1)])

    def test_empty_books(self):
        self.assertEqual(coverings(Book.read("")), [])
        found = coverings(book_of("rule always mark a", "rule always mark a"))
        found.clear()
        self.assertEqual(coverings(book_of("rule always mark a", "rule always mark a")), [(1, 2), (2, 1)])


class AtRandom(unittest.TestCase):
    def test_fitting_at_random(self):
        rng = random.Random(20)
        for _ in range(150):
            book = Book.read(random_book_text(rng))
            possible = possible_kinds(book.tests)
            unfit = [rule.number for rule in book if not any(rule.fits(kind) for kind in possible)]
            self.assertEqual(unfit_rules(book), unfit)
            self.check_alike(book, possible)
            self.assertEqual(coverings(book), self.covered(book, possible), book.written())

    def check_alike(self, book, possible):
        lots = alike_kinds(book)
        self.assertEqual(sorted(kind for lot in lots for kind in lot), possible)
        self.assertEqual(lots, sorted(sorted(lot) for lot in lots))
        where = {kind: at for at, lot in enumerate(lots) for kind in lot}
        for first in possible:
            for second in possible:
                alike = all(rule.fits(first) == rule.fits(second) for rule in book)
                self.assertEqual(where[first] == where[second], alike)

    def covered(self, book, possible):
        found = []
        for first in book:
            for second in book:
                same = (first.mode, first.deed, first.gift) == (second.mode, second.deed, second.gift)
                if first.number != second.number and same and all(
                    first.fits(kind) and first.meets(marks, standings)
                    for kind in possible if second.fits(kind)
                    for marks in ordered_parts(book.marks)
                    for standings in ordered_parts(book.standings) if second.meets(marks, standings)
                ):
                    found.append((first.number, second.number))
        return found


if __name__ == "__main__":
    unittest.main()
