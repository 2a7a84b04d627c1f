"""Alike and unlike books, idle rules and trims: [86], [87], [89], [92]."""

import random
import unittest
from itertools import combinations

from filedalike.book import Book, OtherGround
from filedalike.house import House, is_event
from filedalike.jointviews import JointViews
from filedalike.strata import RingThroughLacks
from filedalike.twobooks import Alike, Unlike, alike_books, compare, idle_rules, trims
from tests.housemodel import random_events
from tests.jointmodel import SlowJoint, random_pair

GROUND = "mark a\nmark b by hand\nstanding s\nstanding u by hand\ntest word x"
RINGED = "rule always mark a if not thread a"


def book_of(*rows):
    return Book.read("\n".join((GROUND,) + rows))


def told_by(books, events, number, sender):
    """What the houses that play events tell of a letter or a sender; None where the letter does not come."""
    told = []
    for book in books:
        house = House(book)
        house.play(events)
        if sender is not None:
            told.append(house.standings_of(sender))
        else:
            told.append(house.marks_of(number) if number in house else None)
    return tuple(told)


class Comparing(unittest.TestCase):
    def check_unlike(self, books, found):
        self.assertIsInstance(found, Unlike)
        self.assertIs(found.alike, False)
        self.assertIsInstance(found.events, list)
        self.assertTrue(all(is_event(event) for event in found.events))
        self.assertEqual((found.number is None) + (found.sender is None), 1)
        told = told_by(books, found.events, found.number, found.sender)
        self.assertEqual((found.first, found.second), told)
        self.assertNotEqual(found.first, found.second)
        for at in range(len(found.events)):
            rest = found.events[:at] + found.events[at + 1:]
            here, there = told_by(books, rest, found.number, found.sender)
            self.assertEqual(here, there)

    def test_alike_books(self):
        one, other = book_of("rule coming mark a if test 1"), book_of("rule always mark a if test 1")
        found = compare(one, other)
        self.assertIsInstance(found, Alike)
        self.assertIs(found.alike, True)
        self.assertIsInstance(found.views, JointViews)
        self.assertEqual(found.views.thread_views(), JointViews(one, other).thread_views())
        self.assertIs(compare(book_of(RINGED.replace("not ", "")), book_of()).alike, True)

    def test_one_letter_is_enough(self):
        books = book_of("rule coming mark a"), book_of()
        found = compare(*books)
        self.check_unlike(books, found)
        self.assertEqual([event[0] for event in found.events], ["letter"])
        self.assertEqual((found.number, found.sender), (found.events[0][1].number, None))
        self.assertEqual((found.first, found.second), (("a",), ()))

    def test_books_of_which_none_is_free(self):
        books = book_of("rule coming mark a if not thread a"), book_of("rule coming mark a")
        found = compare(*books)
        self.check_unlike(books, found)
        self.assertEqual((len(found.events), found.first, found.second), (2, (), ("a",)))
        self.assertIs(compare(books[0], books[0]).alike, True)

    def test_an_always_rule_makes_up_for_a_stamp(self):
        # The stamps differ with the order, what the letters bear does not.
        one = book_of("rule coming mark a if thread b", "rule always mark a if thread b")
        self.assertIs(compare(one, book_of("rule always mark a if thread b")).alike, True)

    def test_marks_come_ahead_of_standings(self):
        books = book_of("rule coming standing s", "rule coming mark a if test 1"), book_of()
        for standings in (False, True):
            found = compare(*books, standings=standings)
            self.check_unlike(books, found)
            self.assertIsNone(found.sender)

    def test_standings_alone(self):
        books = book_of("rule coming standing s if sender u"), book_of()
        self.assertIs(compare(*books).alike, True)
        found = compare(*books, standings=True)
        self.check_unlike(books, found)
        self.assertIsNone(found.number)
        self.assertEqual((found.first, found.second), (("s", "u"), ("u",)))
        self.assertEqual(sorted(event[0] for event in found.events), ["letter", "standing"])
        self.assertIs(compare(books[0], books[0], standings=True).alike, True)

    def test_standings_that_make_marks_unlike(self):
        books = book_of("rule coming standing s", "rule coming mark a if sender s, not test 1"), book_of(
            "rule coming mark a if sender s, not test 1", "rule coming standing s",
        )
        found = compare(*books)
        self.check_unlike(books, found)
        self.assertEqual((len(found.events), found.first, found.second), (1, ("a",), ()))

    def test_hands_on_the_letter_and_on_others(self):
        # Only a mark on another letter of the thread that came before is seen by a coming-rule.
        books = book_of("rule coming mark a if thread b"), book_of()
        self.check_unlike(books, compare(*books))
        # A mark on the letter itself counts for the always-rule, even behind its coming.
        books = book_of("rule always mark a if thread b"), book_of("rule coming mark a if thread b")
        found = compare(*books)
        self.check_unlike(books, found)
        self.assertEqual(len(found.events), 2)

    def test_a_letter_that_comes_later(self):
        # The first letter bears a only when another one has come behind it.
        books = book_of("rule coming mark b if test 1", "rule always mark a if thread b, not test 1"), book_of(
            "rule coming mark b if test 1",
        )
        found = compare(*books)
        self.check_unlike(books, found)

    def test_the_errors(self):
        with self.assertRaises(OtherGround):
            compare(book_of(), Book.read("mark a"), standings=True)
        with self.assertRaises(RingThroughLacks):
            compare(book_of(), book_of(RINGED), standings=True)

    def test_pairs_at_random(self):
        rng = random.Random(91)
        told = {True: 0, "number": 0, "sender": 0}
        for _ in range(250):
            books = random_pair(rng)
            slow = SlowJoint(*books)
            plain, full = compare(*books), compare(*books, standings=True)
            self.assertIs(plain.alike, slow.bears_alike())
            same_standings = all(pair[0] == pair[1] for _, pair in slow.senders)
            self.assertIs(full.alike, plain.alike and same_standings)
            for found in (plain, full):
                if not found.alike:
                    self.check_unlike(books, found)
            if not plain.alike:
                self.assertIsNotNone(full.number)
            told[full.alike or ("sender" if full.number is None else "number")] += 1
            self.check_rows(rng, books, plain, full)
        self.assertTrue(min(told.values()) > 10, told)

    def check_rows(self, rng, books, plain, full):
        """Alike books give the same for rows at random."""
        if plain.alike:
            for _ in range(3):
                events = random_events(rng, books[0], 15)
                one, other = House(books[0]), House(books[1])
                self.assertEqual(one.play(events), other.play(events))
                for letter in one:
                    self.assertEqual(one.marks_of(letter.number), other.marks_of(letter.number))
                    if full.alike:
                        self.assertEqual(one.standings_of(letter.sender), other.standings_of(letter.sender))


class Groups(unittest.TestCase):
    def test_groups_of_books(self):
        books = (
            book_of("rule coming mark a if test 1"), book_of(), book_of("rule always mark a if test 1"),
            book_of("rule coming mark a"), book_of("rule coming standing s"), book_of("rule always mark a"),
        )
        self.assertEqual(alike_books(*books), [[0, 2], [1, 4], [3, 5]])
        self.assertEqual(alike_books(*books[::-1]), [[0, 2], [1, 4], [3, 5]])

    def test_few_books(self):
        self.assertEqual(alike_books(), [])
        self.assertEqual(alike_books(book_of()), [[0]])
        self.assertEqual(alike_books(book_of(RINGED)), [[0]])
        book = book_of()
        self.assertEqual(alike_books(book, book, book), [[0, 1, 2]])

    def test_errors_are_those_of_the_first_book_with_each_later_one(self):
        other = Book.read("mark a")
        with self.assertRaises(OtherGround) as caught:
            alike_books(book_of(RINGED), other)
        self.assertEqual(caught.exception.part, "marks")
        with self.assertRaises(RingThroughLacks) as caught:
            alike_books(book_of(), book_of("rule coming mark a", RINGED), other, book_of(RINGED))
        self.assertEqual(caught.exception.ring, ((2, "a", "a"),))
        with self.assertRaises(OtherGround):
            alike_books(book_of(), book_of(), other, book_of(RINGED))
        # The first two books are unlike, which is no reason to leave out the third one.
        with self.assertRaises(RingThroughLacks):
            alike_books(book_of("rule coming mark a"), book_of(), book_of(RINGED))

    def test_at_random(self):
        rng = random.Random(92)
        for _ in range(40):
            one, other = random_pair(rng)
            books = [one, other, one.with_rules(one.rules[::-1]), one.with_rules(())]
            found = alike_books(*books)
            self.assertEqual(sorted(at for group in found for at in group), [0, 1, 2, 3])
            self.assertEqual(found, sorted(sorted(group) for group in found))
            for first, second in combinations(range(4), 2):
                together = any(first in group and second in group for group in found)
                self.assertIs(together, compare(books[first], books[second]).alike)


class Needed(unittest.TestCase):
    def test_idle_rules(self):
        book = book_of("rule coming mark a if test 1", "rule coming mark a", "rule always mark a if test 1")
        self.assertEqual(idle_rules(book), [1, 3])
        self.assertEqual(trims(book), [(2,)])

    def test_either_of_two_rules(self):
        book = book_of("rule coming mark a", "rule coming standing s", "rule always mark a")
        self.assertEqual(idle_rules(book), [1, 2, 3])
        self.assertEqual(trims(book), [(1,), (3,)])

    def test_books_without_idle_rules(self):
        self.assertEqual((idle_rules(book_of()), trims(book_of())), ([], [()]))
        book = book_of("rule coming mark a if test 1", "rule always mark a if thread b")
        self.assertEqual((idle_rules(book), trims(book)), ([], [(1, 2)]))
        book = book_of("rule coming standing s")
        self.assertEqual((idle_rules(book), trims(book)), ([1], [()]))

    def test_larger_sets_need_not_be_alike(self):
        # Rules 1 and 2 undo each other: the book is alike to one without rules, but not with one of them added.
        book = Book.read(
            "mark a\nstanding s\nrule coming standing s\nrule coming mark a if not sender s"
        )
        self.assertEqual(trims(book), [()])
        self.assertEqual(idle_rules(book), [2])

    def test_rings(self):
        book = book_of("rule coming mark b", RINGED)
        for function in (idle_rules, trims):
            with self.assertRaises(RingThroughLacks) as caught:
                function(book)
            self.assertEqual(caught.exception.ring, ((2, "a", "a"),))

    def test_at_random(self):
        rng = random.Random(93)
        many = 0
        for _ in range(60):
            book, _ = random_pair(rng)
            numbers = [rule.number for rule in book.rules]
            parts = [part for many in range(len(numbers) + 1) for part in combinations(numbers, many)]
            alike = [part for part in parts if SlowJoint(book.with_rules([book[n] for n in part]), book).bears_alike()]
            told = [part for part in alike if not any(set(other) < set(part) for other in alike)]
            self.assertEqual(trims(book), told)
            without = {number: tuple(other for other in numbers if other != number) for number in numbers}
            self.assertEqual(idle_rules(book), [number for number in numbers if without[number] in alike])
            many += len(told) > 1
        self.assertTrue(many > 1)


if __name__ == "__main__":
    unittest.main()
