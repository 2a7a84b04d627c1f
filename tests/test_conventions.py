"""The conventions: [2], [3], [4], as far as they are not tested beside what they speak of."""

import unittest

from filedalike.always import View, borne, fitting, thread_marks, view_of
from filedalike.book import Book, OtherGround
from filedalike.bookedits import changed_kinds
from filedalike.closure import Closure, NoView
from filedalike.deeds import BadDeed
from filedalike.desk import NoWatch
from filedalike.devices import Device, Forged, WrongDeed
from filedalike.errors import Clash, MailError
from filedalike.fitting import alike_kinds, coverings, unfit_rules
from filedalike.folding import NotFree
from filedalike.forest import Forest
from filedalike.had import BadHad, Had
from filedalike.headrows import BadRow, read_letters, written_letters
from filedalike.house import BadEvent, House, NotByHand
from filedalike.joins import chain, each_join, join_of, together_since
from filedalike.kept import Kept, NoLetter
from filedalike.kinds import BadTest, NoKind, barred, kind_of, kinds, letter_of, read_test, sender_kinds
from filedalike.leastsets import blockers, least_of
from filedalike.letters import BadLetter, Letter
from filedalike.meetings import Strangers
from filedalike.orders import judge
from filedalike.plainrun import plain_run
from filedalike.queryread import BadQuery
from filedalike.rules import BadBook, NoRule, NotTurnable
from filedalike.senders import Senders
from filedalike.stamps import walk
from filedalike.strata import RingThroughLacks
from filedalike.support import HasMark, NoMark, Reason, bars, derivation, first_fault
from filedalike.threads import Threads
from filedalike.turnings import Turnings
from filedalike.twobooks import alike_books, idle_rules, trims
from filedalike.viewcheck import senders_told, threads_told

ERRORS = (
    (Clash, "number"), (BadLetter, "field"), (BadRow, "row"), (BadTest, "told"), (NoKind, "kind"), (BadBook, "row"),
    (NoRule, "number"), (NotTurnable, "number"), (RingThroughLacks, "ring"), (OtherGround, "part"), (NoMark, "name"),
    (HasMark, "name"), (NoLetter, "number"), (NotByHand, "name"), (BadEvent, "index"), (NoView, "view"),
    (BadDeed, "field"), (BadHad, "text"), (NotFree, "kind"), (WrongDeed, "index"), (Strangers, "pair"),
    (BadQuery, "place"), (NoWatch, "name"),
)
LETTERS = (Letter(5, "a", "b", answers=(9, 2)), Letter(7, "a", "b"), Letter(9, "a", "b", answers=(7,)))
TEXT = "\n".join([
    "mark a by hand", "mark b", "standing s", "test word x", "test words 2", "rule coming mark a if test 1",
    "rule always mark b if thread a",
])

EVENTS = tuple(("letter", letter) for letter in LETTERS) + (("mark", 5, "a"), ("seen", 9, True, 1, "d"))


class Errors(unittest.TestCase):
    def test_the_base_of_all_errors(self):
        self.assertEqual(MailError.__bases__, (ValueError,))

    def test_each_error_stands_directly_below_the_base(self):
        for made, _ in ERRORS:
            self.assertEqual(made.__bases__, (MailError,), made)

    def test_errors_keep_what_they_are_given(self):
        for made, name in ERRORS:
            for value in (3, "word", ("a", None), 10 ** 5000):
                self.assertIs(getattr(made(value), name), value)

    def test_an_error_with_two_attributes(self):
        self.assertEqual(Forged.__bases__, (MailError,))
        error = Forged("ann", 10 ** 30)
        self.assertEqual((error.device, error.number), ("ann", 10 ** 30))
        self.assertIsInstance(str(error), str)

    def test_errors_can_be_shown(self):
        for made, _ in ERRORS:
            self.assertIsInstance(str(made(7)), str)


class Copies(unittest.TestCase):
    def test_lists_that_are_passed_stay_as_they_are(self):
        letters = list(LETTERS)
        tests = [read_test("word x"), read_test("words 2")]
        written_letters(letters)
        for made in (Threads.of(letters), Forest.of(letters)):
            self.assertEqual(len(made) > 0, True)
        list(each_join(letters))
        together_since(letters, 5, 7)
        kinds(tests)
        kind_of(tests, LETTERS[0])
        barred(tests, (True, False))
        self.assertEqual(letters, list(LETTERS))
        self.assertEqual([test.written() for test in tests], ["word x", "words 2"])

    def test_threads_that_are_asked_stay_as_they_are(self):
        threads = Threads.of(LETTERS[:2])
        before = threads.summary()
        join_of(threads, LETTERS[2])
        chain(threads, 5, 9)
        self.assertEqual(threads.summary(), before)
        self.assertEqual(list(threads), [5, 7])

    def test_every_list_is_new(self):
        book = Book.read(TEXT)
        tests = list(book.tests)
        text = written_letters(LETTERS)
        calls = (
            lambda: read_letters(text), lambda: kinds(tests), lambda: sender_kinds(tests), lambda: unfit_rules(book),
            lambda: alike_kinds(book), lambda: coverings(book), book.layers, Threads.of(LETTERS).summary,
            Forest.of(LETTERS).summary, Forest.of(LETTERS).drawn,
        )
        house = House(book)
        house.play(EVENTS)
        senders = Senders(["s"])
        senders.give("a at b", "s")
        view = View(["a"], [2])
        calls += (
            house.deeds, lambda: house.play([]), senders.names, lambda: derivation(book, view),
            lambda: bars(book, View(), "b"), lambda: walk(book, (True, True), (), ()),
        )
        closure, bound = Closure(book), judge(Book.read("mark a\nrule coming mark a if not thread a"))
        turnings = Turnings(book)
        calls += (
            closure.thread_views, closure.joined_views, lambda: closure.sender_views((None, None)),
            lambda: threads_told(closure), lambda: senders_told(closure), judge(book).table, bound.first_order,
            bound.second_order, turnings.good_sets, turnings.least_sets, turnings.spoiled, turnings.stuck,
            lambda: least_of([(1,)]), lambda: blockers([(1,)]), lambda: plain_run((book, []))[0],
        )
        device = Device("d", Book.read("mark a by hand"))
        device.put(5, "a")
        calls += (
            lambda: changed_kinds(book, book), lambda: alike_books(book, book), lambda: alike_books(book, book)[0],
            lambda: idle_rules(book), lambda: trims(book), device.deeds, lambda: device.parcel(Had()),
        )
        for call in calls:
            first, second = call(), call()
            self.assertIsInstance(first, list)
            self.assertEqual(first, second)
            self.assertIsNot(first, second)
            first.append(None)
            self.assertEqual(call(), second)

    def test_books_and_views_that_are_asked_stay_as_they_are(self):
        book, view = Book.read(TEXT), View(["a"], [2])
        marks, own = ["a"], ["b"]
        self.assertEqual(thread_marks(book, view), ("a", "b"))
        borne(book, (True, True), own, marks)
        fitting(book, (True, True))
        view_of(book, [((True, True), own)])
        book.turned(1)
        book.without(1)
        book.with_rules([book[2]])
        self.assertEqual((book.written(), view.key(), marks, own), (TEXT, (("a",), (2,)), ["a"], ["b"]))


    def test_houses_leave_what_is_passed(self):
        book, marks, events = Book.read(TEXT), ["b"], list(EVENTS)
        kept = Kept(book)
        kept.come(LETTERS[0], marks)
        house = House(book)
        house.play(events)
        reasons = [Reason("a", 0, 0, has=marks)]
        first_fault(book, View(), reasons)
        self.assertEqual((marks, events, len(reasons), book.written()), (["b"], list(EVENTS), 1, TEXT))


class Clashes(unittest.TestCase):
    def test_letters_clash_if_anything_is_unlike(self):
        told = {"answers": (2, 3), "subject": ("s",), "words": ("w",)}
        letter = Letter(1, "a", "b", **told)
        others = [
            Letter(1, "c", "b", **told), Letter(1, "a", "c", **told), Letter(1, "a", "b", **dict(told, answers=(3, 2))),
            Letter(1, "a", "b", **dict(told, subject=())), Letter(1, "a", "b", **dict(told, words=("w", "w"))),
        ]
        house, kept = House(Book.read("")), Kept(Book.read(""))
        self.assertEqual((house.come(letter), kept.come(letter)), (True, True))
        for other in others:
            for come in (house.come, kept.come):
                with self.assertRaises(Clash) as caught:
                    come(other)
                self.assertEqual(caught.exception.number, 1)
        again = Letter(1, "a", "b", **told)
        self.assertEqual((house.come(again), kept.come(again)), (False, False))
        for made in (Threads, Forest):
            for other in others:
                with self.assertRaises(Clash) as caught:
                    made.of([letter, other])
                self.assertEqual(caught.exception.number, 1)
            self.assertIs(made.of([letter]).put(Letter(1, "a", "b", **told)), False)

    def test_plain_letters_of_equal_kinds_are_equal(self):
        tests = [read_test("word x")]
        self.assertEqual(letter_of(tests, (True,)), letter_of(tuple(tests), (True,)))


if __name__ == "__main__":
    unittest.main()
