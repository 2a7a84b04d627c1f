"""Joint views of two books: [84], [85], [87], [88], [90]."""

import random
import unittest

from filedalike.always import View
from filedalike.book import Book, OtherGround
from filedalike.bookedits import changed_kinds, edit_seam
from filedalike.jointviews import JointViews
from filedalike.strata import RingThroughLacks
from filedalike.twobooks import alike_books, compare
from tests.jointmodel import SlowJoint, random_pair

GROUND = "mark a\nmark b by hand\nstanding s\nstanding u by hand\ntest word x"
RINGS = (
    "rule always mark a if not thread a", "rule always mark b if not thread b",
)
OTHERS = (
    ("marks", "mark a\nmark c by hand\nstanding s\nstanding u by hand\ntest word x"),
    ("hand_marks", "mark a by hand\nmark b by hand\nstanding u\nstanding s by hand\ntest word x"),
    ("standings", "mark a\nmark b by hand\nstanding u by hand\nstanding s\ntest word x"),
    ("hand_standings", "mark a\nmark b by hand\nstanding s\nstanding u\ntest word y"),
    ("tests", "mark a\nmark b by hand\nstanding s\nstanding u by hand\ntest subject x"),
)


def over(ground, *rows):
    return Book.read("\n".join((ground,) + rows))


def book_of(*rows):
    return over(GROUND, *rows)


def plain(view):
    """A pair of Views as a pair of keys."""
    return tuple(part.key() for part in view)


class WrongBooks(unittest.TestCase):
    FUNCTIONS = (JointViews, compare, alike_books, edit_seam, changed_kinds)

    def check(self, made, name, value, *books):
        for function in self.FUNCTIONS:
            with self.assertRaises(made) as caught:
                function(*books)
            self.assertEqual(getattr(caught.exception, name), value)

    def test_another_ground(self):
        for part, ground in OTHERS:
            self.check(OtherGround, "part", part, book_of(), over(ground))

    def test_another_ground_comes_before_rings(self):
        for part, ground in OTHERS[2:]:
            ringed = over(ground, RINGS[0])
            self.check(OtherGround, "part", part, book_of(RINGS[0]), ringed)
            self.check(OtherGround, "part", part, ringed, book_of())

    def test_the_ring_of_the_first_book_comes_first(self):
        one, other = book_of(RINGS[0]), book_of("rule coming mark a", RINGS[1])
        self.assertEqual((one.ring, other.ring), (((1, "a", "a"),), ((2, "b", "b"),)))
        self.check(RingThroughLacks, "ring", one.ring, one, other)
        self.check(RingThroughLacks, "ring", other.ring, other, one)
        self.check(RingThroughLacks, "ring", one.ring, one, book_of())
        self.check(RingThroughLacks, "ring", other.ring, book_of(), other)

    def test_larger_books_are_refused_likewise(self):
        large = "\n".join([
            "mark a", "mark b", "mark c", "standing s", "standing u", "test word x", "test word y",
        ] + ["rule coming mark a"] * 4)
        ringed = over(large, "rule always mark c if not thread c")
        self.check(RingThroughLacks, "ring", ((5, "c", "c"),), over(large), ringed)
        self.check(OtherGround, "part", "marks", book_of(), ringed)


class Reached(unittest.TestCase):
    def test_books_without_rows(self):
        views = JointViews(Book.read(""), Book.read(""))
        nothing = (View(), View())
        self.assertEqual(views.thread_views(), [nothing])
        self.assertEqual(views.joined_views(), [nothing])
        self.assertEqual(views.sender_views(()), [((), ())])
        self.assertEqual(views.followed(), [((), (), (), View(), View())])

    def test_each_book_makes_its_own_step(self):
        one = book_of("rule coming mark a if not thread a, test 1", "rule coming standing s if thread a")
        other = book_of("rule always mark a if test 1")
        views = JointViews(one, other)
        threads = [plain(view) for view in views.thread_views()]
        # A first letter with x gets the mark in one house, and is fitted by the rule in the other.
        self.assertIn(((("a",), ()), ((), (1,))), threads)
        self.assertNotIn(((("a",), ()), ((), ())), threads)
        self.assertIn(((("a", "b"), ()), (("b",), (1,))), threads)
        self.assertEqual(threads, sorted(threads))
        pairs = views.sender_views((None,))
        self.assertEqual(pairs, [((), ()), (("s",), ()), (("s", "u"), ("u",)), (("u",), ("u",))])

    def test_joined_views_are_unions(self):
        # The mark of the first letter alone, and the rule that fits the other kind alone, come together.
        one, other = book_of("rule coming mark a if test 1"), book_of("rule always mark a if not test 1")
        views = JointViews(one, other)
        joined = [plain(view) for view in views.joined_views()]
        self.assertIn(((("a",), ()), ((), (1,))), joined)
        self.assertEqual(joined[0], (((), ()), ((), ())))
        self.assertEqual(joined, sorted(joined))

    def test_the_empty_pair_is_joined_though_no_thread_has_it(self):
        views = JointViews(book_of("rule coming mark a"), book_of())
        self.assertIn((((), ()), ((), ())), [plain(view) for view in views.joined_views()])
        self.assertNotIn((((), ()), ((), ())), [plain(view) for view in views.thread_views()])

    def test_tuples_that_are_no_sender_kinds(self):
        book = Book.read("standing s by hand\ntest house oak")
        views = JointViews(book, book)
        self.assertEqual(views.sender_views((True,)), [((), ()), (("s",), ("s",))])
        for told in ((), (None,), (True, True)):
            self.assertEqual(views.sender_views(told), [])

    def test_standings_of_one_sender_kind_alone(self):
        one, other = (
            Book.read("standing s\ntest house oak\nrule coming standing s if " + wish)
            for wish in ("test 1", "not test 1")
        )
        views = JointViews(one, other)
        self.assertEqual(views.sender_views((True,)), [((), ()), (("s",), ())])
        self.assertEqual(views.sender_views((False,)), [((), ()), ((), ("s",))])

    def test_hands_give_to_unlike_standings(self):
        one, other = book_of("rule coming standing s if not sender u"), book_of()
        here, there = ((), ()), (("u",), ("u",))
        self.assertEqual(
            JointViews(one, other).sender_views((None,)), [here, (("s",), ()), (("s", "u"), ("u",)), there],
        )
        self.assertEqual(
            JointViews(other, one).sender_views((None,)), [here, ((), ("s",)), (("u",), ("s", "u")), there],
        )

    def test_lists_are_new(self):
        views = JointViews(book_of("rule coming mark a"), book_of())
        asked = (
            views.thread_views, views.joined_views, lambda: views.sender_views((None,)), views.followed,
            lambda: views.sender_views((1, 2, 3)),
        )
        for ask in asked:
            told = ask()
            self.assertIsInstance(told, list)
            ask().append(None)
            self.assertEqual(ask(), told)


class FollowedLetters(unittest.TestCase):
    def told(self, views):
        return [row[:3] + (plain(row[3:]),) for row in views.followed()]

    def test_what_hands_put_on_a_letter_alone(self):
        book = Book.read("mark a by hand")
        views = JointViews(book, book)
        empty, marked = ((), ()), (("a",), ())
        # A mark in the thread without one on the letter is on another letter.
        self.assertEqual(self.told(views), [
            ((), (), (), (empty, empty)), ((), (), (), (marked, marked)), ((), ("a",), ("a",), (marked, marked)),
        ])

    def test_a_letter_alone_has_no_other_letter(self):
        # Every letter gets b, so a mark in the thread that is not on the letter is on another one.
        one = Book.read("mark a by hand\nmark b\nrule coming mark b if thread b\nrule coming mark b if not thread b")
        views = JointViews(one, one)
        told = self.told(views)
        both, alone = (("a", "b"), ()), (("b",), ())
        self.assertEqual(told, [
            ((), ("a", "b"), ("a", "b"), (both, both)), ((), ("b",), ("b",), (both, both)),
            ((), ("b",), ("b",), (alone, alone)),
        ])

    def test_company_with_the_empty_view(self):
        # Nothing tells that the thread has another letter, but hands can mark it.
        book = Book.read("mark a by hand\ntest word x\nrule always mark a if thread a, test 1")
        views = JointViews(book, book)
        self.assertIn(((False,), (), (), ((("a",), ()), (("a",), ()))), self.told(views))

    def test_company_with_the_empty_view_when_the_letter_comes(self):
        # Company that comes earlier with b, or later, brings a into the thread.
        book = book_of(
            "rule always mark a if test 1", "rule coming mark a if thread a", "rule coming mark a if thread b",
        )
        view = (("b",), (1,))
        self.assertIn(((True,), (), (), (view, view)), self.told(JointViews(book, book)))

    def test_own_marks_are_told_in_book_order(self):
        book = Book.read("mark z by hand\nmark a by hand")
        views = JointViews(book, book)
        self.assertIn(("z", "a"), [row[1] for row in views.followed()])
        self.assertIn((("a", "z"), ()), [row[3].key() for row in views.followed()])
        self.assertEqual(self.told(views), sorted(self.told(views)))


class AfterEdit(unittest.TestCase):
    def test_what_is_reached_at_the_edit(self):
        one, other = book_of("rule coming mark a if test 1"), book_of("rule always mark b if test 1")
        views = JointViews(one, other).after_edit()
        self.assertIsInstance(views, JointViews)
        threads = [plain(view) for view in views.thread_views()]
        # The mark of the first book stays, and its letters are fitted by the rule of the second one.
        self.assertIn(((("a",), (1,)), ((), (1,))), threads)
        # Letters that come behind the edit get nothing from the first book.
        self.assertIn((((), (1,)), ((), (1,))), threads)
        self.assertNotIn(((("a",), ()), ((), (1,))), threads)

    def test_standings_stay(self):
        one, other = book_of("rule coming standing s"), book_of()
        self.assertIn((("s",), ()), JointViews(one, other).after_edit().sender_views((None,)))

    def test_the_edit_of_an_edit_tells_the_same(self):
        rng = random.Random(81)
        for _ in range(30):
            views = JointViews(*random_pair(rng)).after_edit()
            again = views.after_edit()
            self.assertEqual(again.thread_views(), views.thread_views())
            self.assertEqual(again.joined_views(), views.joined_views())
            self.assertEqual(again.followed(), views.followed())
            for sender in ((), (None,), (True,), (False,)):
                self.assertEqual(again.sender_views(sender), views.sender_views(sender))


class AtRandom(unittest.TestCase):
    def check(self, views, slow):
        self.assertEqual([plain(view) for view in views.thread_views()], sorted(slow.threads))
        self.assertEqual([plain(view) for view in views.joined_views()], sorted(slow.joined))
        for sender in list(slow.kinds) + [(None, None)]:
            told = sorted(pair for other, pair in slow.senders if other == sender)
            self.assertEqual(views.sender_views(sender), told)
        told = [row[:3] + plain(row[3:]) for row in views.followed()]
        self.assertEqual(told, slow.told_followed())

    def test_pairs_of_books(self):
        rng = random.Random(82)
        for _ in range(120):
            books = random_pair(rng)
            views, slow = JointViews(*books), SlowJoint(*books)
            self.check(views, slow)
            self.check(views.after_edit(), slow.after_edit())

    def test_the_largest_books(self):
        ground = "mark a by hand\nmark b by hand\nstanding s by hand\nstanding t by hand\ntest house oak"
        rows = ("rule coming mark a if sender s, not thread b", "rule coming standing t if thread a, not test 1")
        one = over(ground, *rows, "rule always mark b if test 1, thread a")
        other = over(ground, rows[1], "rule coming mark b if sender t", "rule always mark a if not test 1")
        views, slow = JointViews(one, other), SlowJoint(one, other)
        self.check(views, slow)
        self.check(views.after_edit(), slow.after_edit())


if __name__ == "__main__":
    unittest.main()
