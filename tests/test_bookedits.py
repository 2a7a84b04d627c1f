"""Seams of edits and changed kinds: [84], [90], [91]."""

import random
import unittest

from filedalike.book import Book, OtherGround
from filedalike.bookedits import Seam, Seamless, changed_kinds, edit_seam
from filedalike.house import House, is_event
from filedalike.kinds import kind_of, kinds
from filedalike.orders import judge
from filedalike.stamps import empty_stamp
from filedalike.strata import RingThroughLacks
from filedalike.twobooks import compare
from tests.housemodel import random_events
from tests.jointmodel import SlowJoint, random_pair
from tests.models import random_ground, random_rule, rule_row

GROUND = "mark a\nmark b by hand\nstanding s\nstanding u by hand\ntest word x"


def book_of(*rows):
    return Book.read("\n".join((GROUND,) + rows))


def houses_of(books, before, after):
    """The house that is edited between the rows, and the house of the second book."""
    edited, other = House(books[0]), House(books[1])
    edited.play(before)
    edited.edit(books[1])
    edited.play(after)
    other.play(before + after)
    return edited, other


class Seams(unittest.TestCase):
    def told_by(self, books, before, after, number):
        return tuple(
            house.marks_of(number) if number in house else None for house in houses_of(books, before, after)
        )

    def check_seam(self, books, found):
        self.assertIsInstance(found, Seam)
        self.assertIs(found.seamless, False)
        before, after = found.before, found.after
        for row in (before, after):
            self.assertIsInstance(row, list)
            self.assertTrue(all(is_event(event) for event in row))
        self.assertEqual((found.first, found.second), self.told_by(books, before, after, found.number))
        self.assertNotEqual(found.first, found.second)
        for at in range(len(before)):
            here, there = self.told_by(books, before[:at] + before[at + 1:], after, found.number)
            self.assertEqual(here, there)
        for at in range(len(after)):
            here, there = self.told_by(books, before, after[:at] + after[at + 1:], found.number)
            self.assertEqual(here, there)

    def test_always_rules_leave_no_seam(self):
        one, other = book_of("rule always mark a if test 1"), book_of("rule always mark a if not thread b")
        self.assertIs(compare(one, other).alike, False)
        found = edit_seam(one, other)
        self.assertIsInstance(found, Seamless)
        self.assertIs(found.seamless, True)
        self.assertIs(edit_seam(one, one).seamless, True)

    def test_a_stamp_that_stays(self):
        books = book_of("rule coming mark a"), book_of()
        found = edit_seam(*books)
        self.check_seam(books, found)
        self.assertEqual((len(found.before), found.after), (1, []))
        self.assertEqual((found.first, found.second), (("a",), ()))
        self.assertEqual(found.number, found.before[0][1].number)

    def test_a_stamp_that_is_missing(self):
        books = book_of(), book_of("rule coming mark a")
        found = edit_seam(*books)
        self.check_seam(books, found)
        self.assertEqual((len(found.before), found.after, found.first, found.second), (1, [], (), ("a",)))

    def test_alike_books_with_a_seam(self):
        # Both make up for the stamps of the own letters, but the second one drops its rule for later letters.
        books = book_of("rule always mark a"), book_of("rule coming mark a")
        self.assertIs(compare(*books).alike, True)
        found = edit_seam(*books)
        self.check_seam(books, found)
        self.assertEqual((len(found.before), found.after, found.first, found.second), (1, [], (), ("a",)))
        self.assertIs(edit_seam(*books[::-1]).seamless, True)

    def test_a_seam_that_only_later_letters_see(self):
        # The standing of the first house does nothing until a letter comes behind the edit.
        books = book_of("rule coming standing s"), book_of("rule coming mark a if sender s")
        found = edit_seam(*books)
        self.check_seam(books, found)
        self.assertEqual((len(found.before), len(found.after)), (1, 1))
        self.assertEqual((found.first, found.second), (("a",), ()))
        self.assertEqual(found.number, found.after[0][1].number)

    def test_hands_behind_the_edit(self):
        one, other = book_of("rule coming standing s"), book_of("rule always mark a if thread b")
        self.assertIs(edit_seam(one, other).seamless, True)
        books = one, book_of("rule coming mark a if sender s, thread b")
        found = edit_seam(*books)
        self.check_seam(books, found)
        self.assertEqual((found.first, found.second), (("a",), ()))

    def test_the_errors(self):
        ringed = book_of("rule always mark a if not thread a")
        for books in ((ringed, book_of()), (book_of(), ringed)):
            with self.assertRaises(RingThroughLacks) as caught:
                edit_seam(*books)
            self.assertEqual(caught.exception.ring, ((1, "a", "a"),))
        with self.assertRaises(OtherGround) as caught:
            edit_seam(ringed, Book.read("mark a"))
        self.assertEqual(caught.exception.part, "marks")

    def test_pairs_at_random(self):
        rng = random.Random(94)
        told = {True: 0, False: 0}
        for _ in range(250):
            books = random_pair(rng)
            found = edit_seam(*books)
            self.assertIs(found.seamless, SlowJoint(*books).after_edit().bears_alike())
            told[found.seamless] += 1
            if found.seamless:
                self.check_rows(rng, books)
            else:
                self.check_seam(books, found)
        self.assertTrue(min(told.values()) > 20, told)

    def test_seams_that_only_later_letters_see_at_random(self):
        # The first book gives standings alone, and the second one stamps nothing without them.
        rng = random.Random(96)
        many = 0
        for _ in range(150):
            ends = [["", ", test 1", ", not test 1"], ["", ", thread a", ", not thread a"], ["", ", thread b"]]
            wishes = ["".join(rng.choice(each) for each in ends) for _ in range(4)]
            first = [f"rule coming standing s if sender u{wishes[0]}", f"rule coming standing s{wishes[1]}"]
            first[1] = first[1].replace("s, ", "s if ", 1)
            second = [f"rule coming mark {rng.choice(['a', 'b'])} if sender s{wish}" for wish in wishes[2:]]
            second += rng.choice([[], ["rule always mark a if thread b"], ["rule coming standing s if sender u"]])
            books = book_of(*first[:rng.randint(1, 2)]), book_of(*second)
            found = edit_seam(*books)
            self.assertIs(found.seamless, SlowJoint(*books).after_edit().bears_alike())
            if found.seamless:
                self.check_rows(rng, books)
            else:
                self.check_seam(books, found)
                many += bool(found.after)
        self.assertTrue(many > 20, many)

    def check_rows(self, rng, books):
        for _ in range(3):
            events, at = random_events(rng, books[0], 15), rng.randint(0, 15)
            edited, other = houses_of(books, events[:at], events[at:])
            for letter in other:
                self.assertEqual(edited.marks_of(letter.number), other.marks_of(letter.number))


class ChangedKinds(unittest.TestCase):
    def test_stamps_at_the_empty_view(self):
        one = book_of("rule coming mark a if test 1", "rule coming standing s if thread b")
        other = book_of("rule coming mark a if not test 1", "rule coming standing s if not thread b, test 1")
        self.assertEqual(changed_kinds(one, other), [(False,), (True,)])
        self.assertEqual(changed_kinds(one, book_of("rule coming mark a if test 1")), [])
        self.assertEqual(changed_kinds(one, book_of()), [(True,)])
        self.assertEqual(changed_kinds(book_of("rule coming standing s"), book_of()), [(False,), (True,)])
        self.assertEqual(changed_kinds(book_of("rule always mark a"), book_of()), [])

    def test_rule_numbers_do_not_count(self):
        one = book_of("rule coming mark b", "rule coming mark a")
        self.assertEqual(changed_kinds(one, book_of("rule coming mark a", "rule coming mark b")), [])

    def test_possible_kinds_alone(self):
        ground = "mark a\ntest word x\ntest words 1"
        found = changed_kinds(Book.read(ground), Book.read(ground + "\nrule coming mark a if test 1"))
        self.assertEqual(found, [(True, True)])
        self.assertEqual(changed_kinds(Book.read(""), Book.read("")), [])

    def test_lists_are_new(self):
        books = book_of("rule coming mark a"), book_of()
        changed_kinds(*books).clear()
        self.assertEqual(changed_kinds(*books), [(False,), (True,)])

    def test_letters_of_changed_kinds_in_free_books(self):
        rng = random.Random(95)
        many = 0
        for _ in range(400):
            rows, marks, standings, tests = random_ground(rng)
            books = []
            for _ in range(2):
                told = [random_rule(rng, marks, standings, tests) for _ in range(rng.randint(0, 5))]
                books.append(Book.read("\n".join(rows + [rule_row(row[0], row[1]) for row in told if row])))
            if any(book.ring for book in books) or not all(judge(book).free for book in books):
                continue
            changed = changed_kinds(*books)
            many += bool(changed) and changed != kinds(books[0].tests)
            events = random_events(rng, books[0], 15)
            one, other = House(books[0]), House(books[1])
            one.play(events)
            other.play(events)
            for letter in one:
                kind = kind_of(books[0].tests, letter)
                is_changed = one.stamp_of(letter.number) != other.stamp_of(letter.number)
                self.assertIs(kind in changed, is_changed)
                self.assertEqual(empty_stamp(books[0], kind), one.stamp_of(letter.number))
        self.assertTrue(many > 5, many)


if __name__ == "__main__":
    unittest.main()
