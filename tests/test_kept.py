"""Letters whose marks are kept: [42], [44], [48], [49]."""

import random
import unittest

from filedalike.always import View
from filedalike.book import Book, OtherGround
from filedalike.errors import Clash, MailError
from filedalike.kept import Kept, NoLetter
from filedalike.letters import Letter
from filedalike.strata import RingThroughLacks
from filedalike.support import NoMark, derivation
from filedalike.threads import Threads
from tests.housemodel import SlowHouse, random_mail
from tests.models import random_ground, random_rule, rule_row

GROUND = "mark c by hand\nmark a\nmark b\nstanding s\ntest word x\ntest words 3"


def book_of(*rows):
    return Book.read("\n".join((GROUND,) + rows))


def letter(number, *answers, words=(), person="p"):
    return Letter(number, person, "h", answers=answers, words=words)


def state(kept, numbers=range(0, 30)):
    """All answers of a Kept about these numbers, but for changes and the order of the letters."""
    rows = [
        (
            number, kept.hand_marks_of(number), kept.thread_view(number).key(), kept.marks_had(number),
            [reason.written() for reason in kept.derivation_of(number)], kept.joined_view(letter(number)).key()
            if number else None,
        )
        for number in numbers
    ]
    came = [
        (number, kept.stamp_marks(number), kept.borne(number), [kept.why(number, mark) for mark in kept.book.marks])
        for number in sorted(kept.threads)
    ]
    bearing = [kept.bearing(mark) for mark in kept.book.marks]
    return rows, came, bearing, list(kept.each_thread()), kept.threads.summary(), kept.book.written()


class Comings(unittest.TestCase):
    def setUp(self):
        self.book = book_of("rule always mark a if thread c", "rule always mark b if test 1, not thread a")
        self.kept = Kept(self.book)

    def test_an_empty_one(self):
        kept = self.kept
        self.assertIs(kept.book, self.book)
        self.assertEqual(kept.threads, Threads())
        self.assertEqual(kept.changes, ())
        self.assertEqual(list(kept.each_thread()), [])
        self.assertEqual(kept.bearing("a"), ())
        self.assertEqual(kept.thread_view(3), View())
        self.assertEqual(kept.marks_had(3), ())
        self.assertEqual(kept.derivation_of(3), [])
        self.assertEqual(kept.joined_view(letter(3, 4)), View())
        self.assertEqual(kept.hand_marks_of(3), ())

    def test_what_come_returns(self):
        self.assertIs(self.kept.come(letter(5)), True)
        self.assertIs(self.kept.come(letter(6), ["b", "c", "b"]), True)
        self.assertEqual(self.kept.stamp_marks(6), ("c", "b"))
        before = state(self.kept)
        self.assertIs(self.kept.come(letter(6), ["a"]), False)
        self.assertIs(self.kept.come(letter(5), ("a",)), False)
        self.assertEqual(state(self.kept), before)
        self.assertEqual(self.kept.stamp_marks(5), ())
        self.assertEqual(list(self.kept.threads), [5, 6])

    def test_marks_are_copied(self):
        marks = ["b"]
        self.kept.come(letter(5), marks)
        marks.append("c")
        self.assertEqual(self.kept.stamp_marks(5), ("b",))

    def test_own_marks_and_given_ones(self):
        self.kept.come(letter(5, words=["x"]))
        self.assertEqual(self.kept.borne(5), ("b",))
        self.assertEqual(self.kept.thread_view(5).key(), ((), (1, 2)))
        self.kept.come(letter(6, 5), ["c"])
        self.assertEqual((self.kept.borne(5), self.kept.borne(6)), (("a",), ("c", "a")))
        self.assertEqual(self.kept.thread_view(5).key(), (("c",), (1, 2)))
        self.assertEqual(self.kept.marks_had(6), ("c", "a"))
        self.assertEqual([reason.written() for reason in self.kept.derivation_of(6)], [
            "c         0  0 put", "a         0  1 rule 1 has c",
        ])
        self.assertEqual(list(self.kept.each_thread()), [(5, ("c", "a"))])

    def test_a_letter_joins_several_threads(self):
        kept = self.kept
        kept.come(letter(5, 20), ["c"])
        kept.come(letter(6, words=["x"]))
        kept.come(letter(7, 21), ["b"])
        kept.come(letter(9))
        here = letter(10, 20, 6, 21)
        self.assertEqual(kept.joined_view(here), View(["b", "c"], [1, 2]))
        self.assertEqual(kept.joined_view(letter(20)), View(["c"], [1]))
        self.assertEqual(kept.joined_view(letter(20, 7)), View(["b", "c"], [1]))
        kept.come(here)
        self.assertEqual(list(kept.each_thread()), [(5, ("c", "a", "b")), (9, ())])
        borne = [kept.borne(number) for number in (5, 6, 7, 9, 10)]
        self.assertEqual(borne, [("c", "a"), ("a",), ("a", "b"), (), ("a",)])
        self.assertEqual(kept.thread_view(20), View(["b", "c"], [1, 2]))
        self.assertEqual(kept.marks_had(21), ("c", "a", "b"))
        self.assertEqual(kept.thread_view(22), View())

    def test_joined_view_leaves_the_letter_out(self):
        self.kept.come(letter(5, 20), ["c"])
        self.kept.put(20, "c")
        self.kept.put(30, "b")
        self.assertEqual(self.kept.joined_view(letter(30, words=["x"])), View())
        self.assertEqual(self.kept.joined_view(letter(20, words=["x"])), View(["c"], [1]))
        self.assertEqual(self.kept.joined_view(letter(5, person="q")), self.kept.thread_view(5))
        self.assertEqual(self.kept.joined_view(letter(5, 77, person="q")), View(["c"], [1]))

    def test_a_letter_that_answers_a_later_number(self):
        self.kept.come(letter(5, 3))
        self.kept.come(letter(6, 4), ["c"])
        self.kept.come(letter(3, 4))
        self.assertEqual(list(self.kept.each_thread()), [(3, ("c", "a"))])
        self.assertEqual(self.kept.bearing("a"), (3, 5, 6))

    def test_rules_of_mode_coming_do_not_count(self):
        kept = Kept(book_of("rule coming mark a", "rule always mark b if thread a"))
        kept.come(letter(5))
        self.assertEqual((kept.borne(5), kept.thread_view(5)), ((), View([], [2])))


class Hands(unittest.TestCase):
    def setUp(self):
        self.kept = Kept(book_of("rule always mark a if thread c", "rule always mark b if thread b, test 1"))

    def test_what_put_returns(self):
        for number in (5, 8):
            self.kept.come(letter(5))
            self.assertIs(self.kept.put(number, "b"), True)
            self.assertIs(self.kept.put(number, "c"), True)
            self.assertIs(self.kept.put(number, "b"), False)
            self.assertEqual(self.kept.hand_marks_of(number), ("c", "b"))

    def test_a_mark_that_the_stamp_gave_too(self):
        self.kept.come(letter(5), ["c"])
        self.assertIs(self.kept.put(5, "c"), True)
        self.assertEqual((self.kept.changes, self.kept.hand_marks_of(5), self.kept.borne(5)), ((), ("c",), ("c", "a")))

    def test_a_mark_waits_for_its_letter(self):
        kept = self.kept
        kept.come(letter(5, 8))
        before = state(kept)
        kept.put(8, "c")
        self.assertEqual(kept.changes, ())
        self.assertEqual(kept.hand_marks_of(8), ("c",))
        self.assertEqual((kept.borne(5), kept.thread_view(8), kept.bearing("c")), ((), View([], [1]), ()))
        self.assertEqual(state(kept)[1:], before[1:])
        kept.come(letter(8))
        self.assertEqual(kept.changes, ((5, "a", True), (8, "c", True), (8, "a", True)))
        self.assertEqual((kept.borne(5), kept.borne(8)), (("a",), ("c", "a")))
        self.assertEqual(kept.stamp_marks(8), ())

    def test_any_mark_of_the_book_may_be_put_here(self):
        self.kept.come(letter(5))
        for mark in "cab":
            self.assertIs(self.kept.put(5, mark), True)
        self.assertEqual(self.kept.borne(5), ("c", "a", "b"))


class Whys(unittest.TestCase):
    def setUp(self):
        self.kept = Kept(book_of(
            "rule always mark a if test 1, not test 2", "rule coming mark a",
            "rule always mark a if thread c, not thread b",
            "rule always mark a if not thread b", "rule always mark b if thread c, test 1",
        ))

    def test_stamps_before_hands_before_rules(self):
        kept = self.kept
        kept.come(letter(5, words=["x"]), ["a"])
        kept.put(5, "a")
        self.assertEqual(kept.why(5, "a"), ("stamp",))
        kept.come(letter(6, words=["x"]))
        self.assertEqual(kept.why(6, "a"), ("rule", 1))
        kept.put(6, "a")
        self.assertEqual(kept.why(6, "a"), ("hand",))

    def test_the_least_rule(self):
        self.kept.come(letter(5))
        self.assertEqual(self.kept.why(5, "a"), ("rule", 4))
        self.kept.put(5, "c")
        self.assertEqual(self.kept.why(5, "a"), ("rule", 3))

    def test_the_first_failing_conditions(self):
        kept = self.kept
        kept.come(letter(5, words=["x", "x", "x"]), ["b"])
        self.assertEqual(kept.why(5, "a"), ("none", ((1, "test", 2), (3, "lacking", "c"), (4, "had", "b"))))
        kept.come(letter(6), ["b", "c"])
        self.assertEqual(kept.why(6, "a"), ("none", ((1, "test", 1), (3, "had", "b"), (4, "had", "b"))))
        kept.come(letter(7))
        self.assertEqual(kept.why(7, "b"), ("none", ((5, "test", 1),)))
        self.assertEqual(kept.why(7, "c"), ("none", ()))

    def test_a_mark_that_the_thread_has_and_the_letter_not(self):
        self.kept.come(letter(5, words=["x"]), ["c"])
        self.kept.come(letter(6, 5))
        self.assertEqual(self.kept.why(6, "b"), ("none", ((5, "test", 1),)))
        self.assertEqual(self.kept.why(5, "b"), ("rule", 5))


class Changes(unittest.TestCase):
    def setUp(self):
        self.kept = Kept(book_of("rule always mark a if not thread c", "rule always mark b if thread c, test 1"))

    def test_each_call(self):
        kept = self.kept
        kept.come(letter(9), ["c", "b"])
        self.assertEqual(kept.changes, ((9, "c", True), (9, "b", True)))
        kept.come(letter(5, words=["x"]))
        self.assertEqual(kept.changes, ((5, "a", True),))
        kept.come(letter(4, 5))
        self.assertEqual(kept.changes, ((4, "a", True),))
        kept.come(letter(6, 4, 9))
        self.assertEqual(kept.changes, ((4, "a", False), (5, "a", False), (5, "b", True)))
        kept.come(letter(6, 4, 9), ["a"])
        self.assertEqual(kept.changes, ())
        kept.put(4, "c")
        self.assertEqual(kept.changes, ((4, "c", True),))
        kept.put(4, "c")
        self.assertEqual(kept.changes, ())
        kept.edit(book_of("rule always mark a if thread c"))
        self.assertEqual(kept.changes, (
            (4, "a", True), (5, "a", True), (5, "b", False), (6, "a", True), (9, "a", True),
        ))
        kept.edit(book_of("rule always mark a"))
        self.assertEqual(kept.changes, ())

    def test_calls_that_raise_leave_them(self):
        self.kept.come(letter(5), ["c"])
        told = self.kept.changes
        self.assertEqual(told, ((5, "c", True),))
        for call, error in (
            (lambda: self.kept.come(letter(5, 6)), Clash), (lambda: self.kept.come(letter(7), ["z"]), NoMark),
            (lambda: self.kept.put(5, "z"), NoMark), (lambda: self.kept.edit(Book.read("")), OtherGround),
            (lambda: self.kept.why(5, "z"), NoMark), (lambda: self.kept.borne(8), NoLetter),
        ):
            self.assertRaises(error, call)
            self.assertEqual(self.kept.changes, told)

    def test_questions_leave_them(self):
        self.kept.come(letter(5), ["c"])
        state(self.kept)
        self.assertEqual(self.kept.changes, ((5, "c", True),))


class Edits(unittest.TestCase):
    def test_edits(self):
        first = book_of("rule always mark a if test 1")
        second = book_of("rule coming mark c", "rule always mark b if thread c")
        kept = Kept(first)
        kept.come(letter(5, words=["x"]), ["a"])
        kept.come(letter(6, 5, words=["x"]))
        kept.put(6, "c")
        kept.put(8, "b")
        self.assertIsNone(kept.edit(second))
        self.assertIs(kept.book, second)
        self.assertEqual((kept.borne(5), kept.borne(6)), (("a", "b"), ("c", "b")))
        self.assertEqual(kept.stamp_marks(5), ("a",))
        self.assertEqual(kept.hand_marks_of(8), ("b",))
        self.assertEqual(kept.thread_view(5), View(["a", "c"], [2]))
        kept.edit(first)
        self.assertEqual((kept.borne(5), kept.borne(6)), (("a",), ("c", "a")))

    def test_wrong_edits_change_nothing(self):
        kept = Kept(book_of("rule always mark a"))
        kept.come(letter(5))
        before = state(kept)
        ringed = "\nrule always mark a if not thread a"
        with self.assertRaises(OtherGround) as caught:
            kept.edit(Book.read(GROUND.replace(" by hand", "") + ringed))
        self.assertEqual(caught.exception.part, "hand_marks")
        with self.assertRaises(RingThroughLacks) as caught:
            kept.edit(Book.read(GROUND + ringed))
        self.assertEqual(caught.exception.ring, ((1, "a", "a"),))
        self.assertEqual(state(kept), before)


class Errors(unittest.TestCase):
    def setUp(self):
        self.kept = Kept(book_of("rule always mark a if thread c"))
        self.kept.come(letter(5, 6))
        self.kept.put(6, "c")

    def check(self, error, value, call):
        before = state(self.kept)
        with self.assertRaises(error) as caught:
            call()
        self.assertEqual(getattr(caught.exception, "name" if error is NoMark else "number"), value)
        self.assertEqual(state(self.kept), before)

    def test_no_letter(self):
        self.assertEqual(NoLetter.__bases__, (MailError,))
        for number in (6, 7):
            self.check(NoLetter, number, lambda: self.kept.borne(number))
            self.check(NoLetter, number, lambda: self.kept.stamp_marks(number))
            self.check(NoLetter, number, lambda: self.kept.why(number, "a"))
            self.check(NoLetter, number, lambda: self.kept.why(number, "z"))

    def test_no_mark(self):
        self.check(NoMark, "z", lambda: self.kept.why(5, "z"))
        self.check(NoMark, "s", lambda: self.kept.bearing("s"))
        self.check(NoMark, "z", lambda: self.kept.put(9, "z"))
        self.check(NoMark, "z", lambda: self.kept.put(5, "z"))
        self.check(NoMark, "z", lambda: self.kept.come(letter(9), ["a", "z", "y"]))

    def test_no_mark_comes_before_all_else(self):
        self.check(NoMark, "y", lambda: self.kept.come(letter(5, 6), ["y", "z"]))
        self.check(NoMark, "y", lambda: self.kept.come(letter(5), ["a", "y"]))

    def test_clash(self):
        self.check(Clash, 5, lambda: self.kept.come(letter(5), ["a"]))

    def test_a_book_with_a_ring(self):
        with self.assertRaises(RingThroughLacks) as caught:
            Kept(book_of("rule always mark a if not thread b", "rule always mark b if thread a"))
        self.assertEqual(caught.exception.ring, ((1, "a", "b"), (2, "b", "a")))


def random_books(rng, many):
    """Books without rings over one ground with marks."""
    rows, marks, standings, tests = random_ground(rng)
    books = []
    while len(books) < many:
        told = [random_rule(rng, marks, standings, tests, "always") for _ in range(rng.randint(0, 5))]
        book = Book.read("\n".join(rows + [rule_row(row[0], row[1]) for row in told if row]))
        if book.ring is None:
            books.append(book)
    return books


class AtRandom(unittest.TestCase):
    NUMBERS = range(1, 9)

    def check(self, kept, slow):
        """Whether a Kept tells what the slow house tells that holds the same."""
        for number in self.NUMBERS:
            self.assertEqual(kept.hand_marks_of(number), slow.hands(number))
            view = slow.view_of(slow.members(number))
            self.assertEqual(kept.thread_view(number).key(), view)
            self.assertEqual(kept.marks_had(number), slow.had(number))
            self.assertEqual(kept.derivation_of(number), derivation(slow.book, View(*view)))
            if number in slow.letters:
                self.assertEqual(kept.borne(number), slow.marks(number))
                self.assertEqual(kept.stamp_marks(number), slow.stamps[number][0])
                for mark in slow.book.marks:
                    self.check_why(kept.why(number, mark), slow, number, mark)
        for mark in slow.book.marks:
            bearing = tuple(number for number in sorted(slow.letters) if mark in slow.marks(number))
            self.assertEqual(kept.bearing(mark), bearing)
        names = sorted({min(slow.thread(number)) for number in slow.letters})
        self.assertEqual(list(kept.each_thread()), [(name, slow.had(name)) for name in names])

    def check_why(self, told, slow, number, mark):
        if mark not in slow.marks(number):
            self.assertEqual(told[0], "none")
            givers = [rule.number for rule in slow.book if rule.mode == "always" and rule.gift == mark]
            self.assertEqual([bar[0] for bar in told[1]], givers)
        elif mark in slow.stamps[number][0]:
            self.assertEqual(told, ("stamp",))
        elif mark in slow.hands(number):
            self.assertEqual(told, ("hand",))
        else:
            self.assertEqual((told[0], slow.book[told[1]].gift), ("rule", mark))

    def changes(self, before, slow):
        rows = []
        for number in sorted(slow.letters):
            for mark in slow.book.marks:
                now = mark in slow.marks(number)
                if now != (mark in before.get(number, ())):
                    rows.append((number, mark, now))
        return tuple(rows)

    def test_comings_hands_and_edits(self):
        rng = random.Random(61)
        for _ in range(60):
            books = random_books(rng, 3)
            kept, slow = Kept(books[0]), SlowHouse(books[0])
            letters = {number: random_mail(rng, number, 8) for number in self.NUMBERS}
            for _ in range(rng.randint(1, 16)):
                before = {number: slow.marks(number) for number in slow.letters}
                number = rng.randint(1, 8)
                marks = [mark for mark in books[0].marks if rng.random() < 0.3]
                word = rng.choice(["come", "come", "come", "put", "edit"])
                if word == "come":
                    found = kept.come(letters[number], marks[::-1])
                    self.assertIs(found, number not in slow.letters)
                    slow.letters.setdefault(number, letters[number])
                    slow.stamps.setdefault(number, (tuple(marks), ()))
                elif word == "put" and marks:
                    self.assertIs(kept.put(number, marks[0]), (number, marks[0]) not in slow.hand_marks)
                    slow.hand_marks.add((number, marks[0]))
                else:
                    slow.book = rng.choice(books)
                    kept.edit(slow.book)
                self.assertEqual(kept.changes, self.changes(before, slow))
                self.check(kept, slow)

    def test_the_order_does_not_matter(self):
        rng = random.Random(62)
        for _ in range(30):
            books = random_books(rng, 2)
            letters = [random_mail(rng, number, 8) for number in self.NUMBERS]
            calls = [("come", each, [mark for mark in books[0].marks if rng.random() < 0.2]) for each in letters]
            calls += [("put", rng.randint(1, 8), mark) for mark in books[0].marks]
            states = []
            for _ in range(4):
                rng.shuffle(calls)
                kept = Kept(books[0])
                cut = rng.randint(0, len(calls))
                for at, (word, first, second) in enumerate(calls):
                    if at == cut:
                        kept.edit(books[1])
                    getattr(kept, word)(first, second)
                if cut == len(calls):
                    kept.edit(books[1])
                states.append(state(kept))
            for other in states[1:]:
                self.assertEqual(other, states[0])

    def test_thousands_of_letters(self):
        kept = Kept(book_of("rule always mark a if thread b", "rule always mark b if thread c, test 1"))
        many = 4000
        for number in range(1, many):
            kept.come(letter(number, number + 1, words=["x"] if number == 7 else []))
        self.assertEqual(kept.bearing("a"), ())
        kept.come(letter(many), ["c"])
        self.assertEqual(len(kept.changes), many + 2)
        self.assertEqual(kept.bearing("a"), tuple(range(1, many + 1)))
        self.assertEqual(kept.marks_had(5), ("c", "a", "b"))


if __name__ == "__main__":
    unittest.main()
