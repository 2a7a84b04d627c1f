"""Books with a ring are books, and are refused wherever strata are needed: [40], [44], [58], [61], [65], [77], [84]."""

import unittest

from filedalike.always import View, borne, fitting, thread_marks, view_of
from filedalike.book import Book, OtherGround
from filedalike.bookedits import changed_kinds, edit_seam
from filedalike.closure import Closure
from filedalike.desk import Desk
from filedalike.devices import Device, meaning
from filedalike.fitting import alike_kinds, coverings, unfit_rules
from filedalike.folding import Fold, checked
from filedalike.house import House
from filedalike.jointviews import JointViews
from filedalike.kept import Kept
from filedalike.letters import Letter
from filedalike.orders import judge
from filedalike.stamps import empty_stamp, stamp, walk
from filedalike.strata import RingThroughLacks
from filedalike.support import bars, derivation, first_fault
from filedalike.turnings import Turnings, turn, turnable
from filedalike.twobooks import alike_books, compare, idle_rules, trims
from filedalike.viewcheck import cost_fault, ground_fault, orders_fault, table_fault
from filedalike.views import step

GROUND = "mark a\nmark b by hand\nstanding s\ntest word x"
RULES = ("rule coming mark b if test 1", "rule always mark a if thread b", "rule always mark b if not thread a")
RING = ((3, "b", "a"), (2, "a", "b"))
KIND = (True,)


def book_of(*rows):
    return Book.read("\n".join((GROUND,) + rows))


class Rings(unittest.TestCase):
    def check(self, *calls):
        for call in calls:
            with self.assertRaises(RingThroughLacks) as caught:
                call()
            self.assertEqual(caught.exception.ring, RING)

    def setUp(self):
        self.ringed, self.right = book_of(*RULES), book_of(*RULES[:2])

    def test_a_book_with_a_ring_is_a_book(self):
        book = self.ringed
        self.assertEqual((book.ring, book.strata, len(book), book.written()), (RING, None, 3, str(book)))
        self.assertEqual(Book.read(book.written()), book)
        self.assertEqual(book.without(3), self.right)
        self.assertEqual(book.turned(1).ring, RING)
        self.assertEqual((unfit_rules(book), alike_kinds(book), coverings(book)), ([], [[(False,)], [(True,)]], []))
        self.assertEqual(stamp(book, KIND, (), ()), empty_stamp(book, KIND))
        self.assertEqual(walk(book, KIND, (), ()), [(1, None)])
        self.assertEqual((fitting(book, KIND), view_of(book, []).key()), ((2, 3), ((), ())))
        self.assertEqual(borne(book, KIND, (), ("b",)), ("a", "b"))

    def test_marks_of_threads(self):
        book, view = self.ringed, View(["z"], [9])
        self.check(
            book.layers, lambda: thread_marks(book, view), lambda: derivation(book, view),
            lambda: first_fault(book, view, []), lambda: bars(book, view, "none"), lambda: bars(book, view, "a"),
        )

    def test_houses(self):
        book = self.ringed
        self.check(lambda: Kept(book), lambda: House(book), lambda: Desk(book))
        for made in (Kept, House, Desk):
            thing = made(self.right)
            thing.come(Letter(5, "ann", "oak", words=("x",)))
            self.check(lambda: thing.edit(book))
            with self.assertRaises(OtherGround):
                thing.edit(Book.read("mark a\nrule always mark a if not thread a"))
        house = House(self.right)
        asked = []
        self.check(lambda: house.tried(book, asked.append))
        self.assertEqual((asked, house.book), ([], self.right))

    def test_verdicts(self):
        book = self.ringed
        self.check(
            lambda: step(book, View(), (), KIND), lambda: Closure(book), lambda: judge(book),
            lambda: table_fault(book, [], []), lambda: cost_fault(book, [], []), lambda: ground_fault(book, [], []),
            lambda: orders_fault(book, [], [], 1),
        )

    def test_turnings(self):
        book = self.ringed
        self.assertEqual(turnable(book), (1,))
        found = turn(book, [1])
        self.assertEqual((found.ring, found.verdict, found.reason, found.is_good), (RING, None, "ring", False))
        turnings = Turnings(book)
        self.assertEqual([each.reason for each in turnings], ["ring", "ring"])
        self.assertEqual((turnings.good_sets(), turnings.needed(), turnings.mended()), ([], None, None))
        self.assertEqual((turnings.spoiled(), turnings.stuck()), ([], [()]))

    def test_two_books(self):
        for function in (JointViews, compare, alike_books, edit_seam, changed_kinds):
            self.check(
                lambda: function(self.ringed, self.right), lambda: function(self.right, self.ringed),
                lambda: function(self.ringed, book_of(RULES[2].replace("not thread a", "not thread b"))),
            )
        self.check(lambda: idle_rules(self.ringed), lambda: trims(self.ringed))
        self.check(lambda: alike_books(self.right, self.right, self.ringed))

    def test_devices(self):
        book = self.ringed
        self.check(lambda: checked(book), lambda: Fold(book), lambda: Device("ann", book), lambda: meaning(book, []))
        free = book_of("rule always mark a if test 1", RULES[1])
        device = Device("ann", free)
        self.check(lambda: device.edit(3, RULES[2]))
        fold = Fold(free)
        self.assertEqual(fold.trial(3, RULES[2]).ring, RING)
        fold.put((1, "ann", 1), 3, RULES[2])
        self.assertEqual((fold.book, fold.passed), (free, (((1, "ann", 1), "ring"),)))


if __name__ == "__main__":
    unittest.main()
