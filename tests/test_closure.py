"""Reached views, their costs and last steps: [62] to [66]."""

import random
import unittest

from filedalike.always import View
from filedalike.book import Book
from filedalike.closure import Closure, NoView
from filedalike.errors import MailError
from filedalike.kinds import sender_kind, sender_kinds
from filedalike.strata import RingThroughLacks
from tests.housemodel import SlowHouse, random_events
from tests.models import random_book_text
from tests.reachmodel import NOTHING, SlowReach, united

# One letter makes a; a sender who answers an a gets v; such a sender makes b.
TEXT = "\n".join([
    "mark a", "mark b", "mark c by hand", "standing v", "test word x", "rule coming mark a if test 1, not sender v",
    "rule coming standing v if thread a, not test 1", "rule coming mark b if sender v, test 1",
])
LARGEST = "\n".join([
    "mark a by hand", "mark b by hand", "mark c by hand", "standing s by hand", "standing t by hand", "test house elm",
    "test word x", "rule always mark a if test 1, test 2", "rule always mark b if test 1, not test 2",
    "rule always mark c if not test 1, test 2", "rule always mark a if not test 1, not test 2, thread b",
    "rule coming standing s if thread a, not thread b",
])
RINGED = "mark a\nrule always mark a if not thread a"


def random_books(seed, many):
    """Books without a ring."""
    rng = random.Random(seed)
    found = []
    while len(found) < many:
        book = Book.read(random_book_text(rng))
        if book.ring is None:
            found.append(book)
    return found


def keys(views):
    return [view.key() for view in views]


class Lists(unittest.TestCase):
    def test_the_book_without_rows(self):
        book = Book.read("")
        closure = Closure(book)
        self.assertIs(closure.book, book)
        self.assertEqual(keys(closure.thread_views()), [NOTHING])
        self.assertEqual(keys(closure.joined_views()), [NOTHING])
        self.assertEqual(closure.sender_views(()), [()])
        self.assertEqual((closure.thread_cost(View()), closure.joined_cost(View())), (1, 0))
        self.assertEqual(closure.sender_cost((), ()), 0)
        self.assertEqual(closure.thread_step(View())[:2], ("letter", ()))
        self.assertEqual(closure.thread_step(View())[2].key(), NOTHING)
        self.assertEqual(closure.thread_step(View())[3:], ((), ()))
        self.assertEqual(closure.lot(View()), [])
        self.assertEqual(closure.sender_step((), ()), ("start",))

    def test_the_empty_view_as_a_thread_view(self):
        closure = Closure(Book.read("mark a\nrule always mark a if thread a"))
        self.assertEqual(keys(closure.thread_views()), [((), (1,))])
        self.assertEqual(keys(closure.joined_views()), [NOTHING, ((), (1,))])
        self.assertIs(View() in closure, False)
        self.assertEqual(closure.joined_cost(View()), 0)
        with self.assertRaises(NoView) as caught:
            closure.thread_cost(View())
        self.assertEqual(caught.exception.view, View())

    def test_a_small_book(self):
        closure = Closure(Book.read(TEXT))
        costs = {
            ((), ()): 1, (("a",), ()): 1, (("b",), ()): 3, (("a", "b"), ()): 4,
            (("c",), ()): 2, (("a", "c"), ()): 2, (("b", "c"), ()): 4, (("a", "b", "c"), ()): 5,
        }
        self.assertEqual(keys(closure.thread_views()), sorted(costs))
        self.assertEqual(keys(closure.joined_views()), sorted(costs))
        for key, cost in costs.items():
            self.assertEqual(closure.thread_cost(View(*key)), cost)
            self.assertEqual(closure.joined_cost(View(*key)), 0 if key == NOTHING else cost)
            self.assertIs(View(*key) in closure, True)
        self.assertEqual(closure.sender_views((None,)), [(), ("v",)])
        self.assertEqual(closure.sender_cost((None,), ("v",)), 2)
        self.assertEqual(closure.sender_cost((None,), ()), 0)

    def test_last_steps_of_a_small_book(self):
        closure = Closure(Book.read(TEXT))
        word, kind, joined, before = closure.sender_step((None,), ("v",))
        self.assertEqual((word, kind, joined.key(), before), ("letter", (False,), (("a",), ()), ()))
        word, kind, joined, sender, standings = closure.thread_step(View(["b"]))
        self.assertEqual((word, kind, joined.key(), sender, standings), ("letter", (True,), NOTHING, (None,), ("v",)))
        word, mark, before = closure.thread_step(View(["a", "c"]))
        self.assertEqual((word, mark, before.key()), ("hand", "c", (("a",), ())))
        self.assertEqual(sorted(keys(closure.lot(View(["a", "b"])))), [(("a",), ()), (("b",), ())])
        self.assertEqual(sum(closure.thread_cost(view) for view in closure.lot(View(["a", "b"]))), 4)

    def test_threads_that_no_letter_unites_cheaply(self):
        # Each mark is given only where the thread lacks the others, so three threads are cheaper than a larger one.
        closure = Closure(Book.read("\n".join([
            "mark a", "mark b", "mark c", "test word x", "test word y",
            "rule coming mark c if test 2, not thread a, not thread b",
            "rule coming mark a if test 1, not thread b, not thread c",
            "rule coming mark b if not test 1, not thread a, not thread c",
        ])))
        all_three = View(["a", "b", "c"])
        self.assertEqual(closure.joined_cost(all_three), 3)
        self.assertEqual(sorted(keys(closure.lot(all_three))), [(("a",), ()), (("b",), ()), (("c",), ())])
        self.assertEqual(closure.thread_cost(all_three), 4)

    def test_no_hands_at_all(self):
        closure = Closure(Book.read("mark a\nstanding v\nrule coming mark a if sender v"))
        self.assertEqual((keys(closure.thread_views()), closure.sender_views(())), ([NOTHING], [()]))

    def test_hands(self):
        closure = Closure(Book.read("mark a by hand\nmark b\nstanding v by hand\nstanding u"))
        self.assertEqual(keys(closure.thread_views()), [NOTHING, (("a",), ())])
        self.assertEqual(closure.sender_views(()), [(), ("v",)])
        self.assertEqual(closure.sender_step((), ("v",)), ("hand", "v", ()))
        self.assertEqual(closure.thread_cost(View(["a"])), 2)

    def test_standings_in_book_order(self):
        closure = Closure(Book.read("standing v by hand\nstanding a by hand"))
        self.assertEqual(closure.sender_views(()), [(), ("a",), ("v",), ("v", "a")])
        self.assertEqual(closure.sender_cost((), ("v", "a")), 2)
        self.assertRaises(NoView, closure.sender_cost, (), ("a", "v"))

    def test_sender_kinds_differ(self):
        closure = Closure(Book.read("\n".join([
            "standing v", "test house oak", "test house elm oak", "rule coming standing v if test 1",
        ])))
        self.assertEqual(closure.sender_views((True, True)), [(), ("v",)])
        self.assertEqual(closure.sender_views((False, True)), [()])
        self.assertEqual(closure.sender_views((False, False)), [()])
        with self.assertRaises(NoView) as caught:
            closure.sender_views((True, False))
        self.assertEqual(caught.exception.view, ((True, False), None))

    def test_ties_are_broken_in_the_same_way_each_time(self):
        text = "mark a by hand\nmark b by hand\nmark c by hand\nstanding v by hand\nstanding u by hand"
        closure, other = Closure(Book.read(text)), Closure(Book.read(text))
        for view in closure.thread_views():
            told = closure.thread_step(view)
            self.assertEqual(told[:2], closure.thread_step(view)[:2])
            self.assertEqual(told[2].key(), closure.thread_step(view)[2].key())
            self.assertEqual(told[2].key(), other.thread_step(view)[2].key())
            self.assertEqual(keys(closure.lot(view)), keys(closure.lot(view)))
        self.assertEqual(closure.sender_step((), ("v", "u")), closure.sender_step((), ("v", "u")))

    def test_lists_that_a_caller_changed(self):
        closure = Closure(Book.read(TEXT))
        for ask in (
            closure.thread_views, closure.joined_views, lambda: closure.sender_views((None,)),
            lambda: closure.lot(View(["a", "b"])),
        ):
            many = len(ask())
            ask().clear()
            self.assertEqual(len(ask()), many)
            self.assertIsInstance(ask(), list)

    def test_a_ring(self):
        with self.assertRaises(RingThroughLacks) as caught:
            Closure(Book.read(RINGED))
        self.assertEqual(caught.exception.ring, ((1, "a", "a"),))


class NoViews(unittest.TestCase):
    def setUp(self):
        self.closure = Closure(Book.read("\n".join([
            "mark a", "mark b by hand", "standing v", "test word x", "rule always mark a if test 1",
        ])))

    def test_views(self):
        self.assertEqual(NoView.__bases__, (MailError,))
        closure = self.closure
        self.assertEqual(keys(closure.thread_views()), [NOTHING, ((), (1,)), (("b",), ()), (("b",), (1,))])
        for view in (View(["a"]), View([], [2]), View(["b"], [1, 2]), View(["z"])):
            for ask in (closure.thread_cost, closure.joined_cost, closure.thread_step, closure.lot):
                with self.assertRaises(NoView) as caught:
                    ask(view)
                self.assertIs(caught.exception.view, view)
            self.assertIs(view in closure, False)
        for thing in (None, NOTHING, 1):
            self.assertIs(thing in closure, False)

    def test_sender_views(self):
        closure = self.closure
        cases = ((None,), ("v",)), ((True,), ()), ((), ()), ((None, None), ("v",)), ((None,), ("a",))
        for sender, standings in cases:
            for ask in (closure.sender_cost, closure.sender_step):
                with self.assertRaises(NoView) as caught:
                    ask(sender, standings)
                self.assertEqual(caught.exception.view, (sender, standings))
        for sender in ((True,), (False,), (), (None, None)):
            with self.assertRaises(NoView) as caught:
                closure.sender_views(sender)
            self.assertEqual(caught.exception.view, (sender, None))


class AtRandom(unittest.TestCase):
    def check_thread_step(self, closure, slow, view):
        told = closure.thread_step(view)
        self.assertIsInstance(told, tuple)
        if told[0] == "hand":
            _, mark, before = told
            self.assertIn(mark, closure.book.hand_marks)
            self.assertEqual(united(before.key(), ((mark,), ())), view.key())
            self.assertEqual(closure.thread_cost(before) + 1, closure.thread_cost(view))
            return
        word, kind, joined, sender, standings = told
        self.assertEqual(word, "letter")
        self.assertIn(kind, slow.kinds[sender])
        self.assertEqual(slow.step(joined.key(), standings, kind)[1], view.key())
        cost = closure.joined_cost(joined) + closure.sender_cost(sender, standings) + 1
        self.assertEqual(cost, closure.thread_cost(view))

    def check_sender_step(self, closure, slow, sender, standings):
        told = closure.sender_step(sender, standings)
        if standings == ():
            self.assertEqual(told, ("start",))
        elif told[0] == "hand":
            _, standing, before = told
            self.assertIn(standing, closure.book.hand_standings)
            self.assertEqual(set(before) | {standing}, set(standings))
            self.assertEqual(closure.sender_cost(sender, before) + 1, closure.sender_cost(sender, standings))
        else:
            word, kind, joined, before = told
            self.assertEqual(word, "letter")
            self.assertIn(kind, slow.kinds[sender])
            self.assertEqual(slow.step(joined.key(), before, kind)[2], standings)
            cost = closure.joined_cost(joined) + closure.sender_cost(sender, before) + 1
            self.assertEqual(cost, closure.sender_cost(sender, standings))

    def check_lot(self, closure, view):
        lot = closure.lot(view)
        self.assertTrue(len(lot) <= 8)
        union = View()
        for thread in lot:
            self.assertIs(thread in closure, True)
            union = union | thread
        self.assertEqual(union, view)
        self.assertEqual(sum(closure.thread_cost(thread) for thread in lot), closure.joined_cost(view))

    def check(self, book):
        closure, slow = Closure(book), SlowReach(book)
        self.assertEqual(keys(closure.thread_views()), sorted(slow.threads))
        self.assertEqual(keys(closure.joined_views()), sorted(slow.joined))
        self.assertEqual(sender_kinds(book.tests), sorted(slow.kinds))
        for view in closure.thread_views():
            self.assertIsInstance(view, View)
            self.assertEqual(closure.thread_cost(view), slow.threads[view.key()])
            self.check_thread_step(closure, slow, view)
        for view in closure.joined_views():
            self.assertEqual(closure.joined_cost(view), slow.joined[view.key()])
            self.assertIs(view in closure, view.key() in slow.threads)
            self.check_lot(closure, view)
        for sender in slow.kinds:
            views = closure.sender_views(sender)
            self.assertEqual(views, sorted(each for other, each in slow.senders if other == sender))
            for standings in views:
                self.assertEqual(closure.sender_cost(sender, standings), slow.senders[sender, standings])
                self.check_sender_step(closure, slow, sender, standings)
        return len(slow.threads)

    def test_random_books(self):
        sizes = [self.check(book) for book in random_books(101, 150)]
        self.assertTrue(max(sizes) >= 16)

    def test_the_largest_books(self):
        self.assertTrue(self.check(Book.read(LARGEST)) >= 100)

    def test_views_of_houses_that_play_random_rows(self):
        rng = random.Random(102)
        for book in random_books(103, 80):
            closure = Closure(book)
            joined = set(keys(closure.joined_views()))
            house = SlowHouse(book)
            for event in random_events(rng, book, 20):
                if event[0] == "letter":
                    self.assertIn(house.view_of(house.joined(event[1])), joined)
                house.do(event)
                for number in house.letters:
                    self.assertIn(View(*house.view_of(house.members(number))), closure)
                for letter in house.letters.values():
                    standings = house.standings(letter.sender)
                    self.assertIn(standings, closure.sender_views(sender_kind(book.tests, letter.house)))


if __name__ == "__main__":
    unittest.main()
