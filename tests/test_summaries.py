"""Summaries and deeds of houses: [59], [60], and houses against a slow model at random rows of events."""

import random
import unittest

from filedalike.book import Book
from filedalike.house import House, is_event
from filedalike.letters import Letter
from tests.housemodel import SlowHouse, random_events
from tests.models import random_book_text, random_ground, random_rule, rule_row

TEXT = "\n".join([
    "mark c by hand", "mark a", "mark b by hand", "standing v", "standing u by hand", "test word x",
    "rule coming mark a if test 1", "rule coming standing v if thread a", "rule always mark b if thread a, not test 1",
])


def letter(number, *answers, words=(), person="ann"):
    return Letter(number, person, "oak", answers=answers, words=words)


def played(text, events):
    house = House(Book.read(text))
    house.play(events)
    return house


class Summaries(unittest.TestCase):
    def test_letters(self):
        house = played(TEXT, [
            ("letter", letter(9, 4)), ("letter", letter(5, words=["x"])), ("letter", letter(7, 5, 9)), ("mark", 7, "c"),
            ("mark", 9, "b"), ("mark", 9, "c"), ("seen", 5, True, 3, "d"), ("seen", 5, False, 2, "e"),
        ])
        letters, senders, waiting = house.summary()
        self.assertEqual(letters, (
            (5, "number: 5\nfrom: ann at oak\n\nx", (("a",), ("v",)), (), ("a",), None, 4, (3, "d", True)),
            (7, "number: 7\nfrom: ann at oak\nanswers: 5 9", ((), ("v",)), ("c",), ("c", "b"), 5, 4, None),
            (9, "number: 9\nfrom: ann at oak\nanswers: 4", ((), ()), ("c", "b"), ("c", "b"), 4, 4, None),
        ))
        self.assertEqual(senders, (("ann at oak", (), ("v",)),))
        self.assertEqual(waiting, ())

    def test_parents_are_those_of_the_forest(self):
        house = played(TEXT, [("letter", letter(2, 1)), ("letter", letter(1, 3)), ("letter", letter(3, 2, 8))])
        self.assertEqual([(row[0], row[5], row[6]) for row in house.summary()[0]], [(1, 3, 1), (2, 1, 1), (3, None, 1)])

    def test_senders(self):
        house = played(TEXT, [
            ("standing", "x at y", "u"), ("letter", letter(5, words=["x"])), ("letter", letter(6, 5, person="bob")),
            ("standing", "bob at oak", "u"),
        ])
        self.assertEqual(house.summary()[1], (
            ("ann at oak", (), ("v",)), ("bob at oak", ("u",), ("v", "u")), ("x at y", ("u",), ("u",)),
        ))

    def test_waiting(self):
        house = played(TEXT, [
            ("mark", 20, "c"), ("mark", 8, "c"), ("mark", 8, "b"), ("seen", 8, False, 0, "d"),
            ("seen", 30, True, 5, "d"),
            ("letter", letter(20, 30)), ("seen", 5, True, 1, "d"), ("letter", letter(4, 5)), ("mark", 6, "b"),
        ])
        self.assertEqual(house.summary()[2], (
            (5, (), (1, "d", True)), (6, ("b",), None), (8, ("c", "b"), (0, "d", False)), (30, (), (5, "d", True)),
        ))

    def test_kinds_of_values(self):
        house = played(TEXT, [("letter", letter(5)), ("mark", 6, "c"), ("standing", "x at y", "u")])
        told = house.summary()
        self.assertIsInstance(told, tuple)
        for part in told:
            self.assertIsInstance(part, tuple)
            self.assertTrue(all(isinstance(row, tuple) for row in part))
        self.assertEqual(House(Book.read("")).summary(), ((), (), ()))


class Deeds(unittest.TestCase):
    def test_the_order_of_deeds(self):
        house = played(TEXT, [
            ("seen", 9, True, 1, "d"), ("standing", "x at y", "u"), ("mark", 30, "b"), ("letter", letter(9)),
            ("mark", 9, "b"), ("mark", 30, "c"), ("seen", 4, False, 0, "d"), ("letter", letter(5, words=["x"])),
            ("standing", "a at b", "u"), ("seen", 9, False, 1, "d"), ("mark", 9, "c"),
            ("letter", letter(5, words=["x"])),
        ])
        self.assertEqual(house.deeds(), [
            ("letter", letter(5, words=["x"])), ("letter", letter(9)), ("mark", 9, "c"), ("mark", 9, "b"),
            ("mark", 30, "c"), ("mark", 30, "b"), ("standing", "a at b", "u"), ("standing", "x at y", "u"),
            ("seen", 4, False, 0, "d"), ("seen", 9, True, 1, "d"),
        ])
        self.assertTrue(all(is_event(event) for event in house.deeds()))

    def test_lists_are_new(self):
        house = played(TEXT, [("letter", letter(5))])
        house.deeds().clear()
        self.assertEqual(len(house.deeds()), 1)

    def test_what_changes_the_deeds_is_told(self):
        rng = random.Random(71)
        for _ in range(60):
            book = Book.read(random_book_text(rng))
            if book.ring is not None:
                continue
            house = House(book)
            for event in random_events(rng, book, 20):
                before = house.deeds()
                self.assertEqual(house.play([event]), [house.deeds() != before])

    def test_free_books_do_not_ask_for_the_order(self):
        rng = random.Random(72)
        many = 0
        for _ in range(120):
            book = Book.read(random_book_text(rng, "always"))
            if book.ring is not None or not book.rules:
                continue
            many += 1
            house = House(book)
            house.play(random_events(rng, book, 25))
            for _ in range(3):
                deeds = house.deeds()
                rng.shuffle(deeds)
                other = House(book)
                other.play(deeds)
                self.assertEqual(other.summary(), house.summary())
                self.assertEqual(other.deeds(), house.deeds())
        self.assertTrue(many > 20)

    def test_the_order_matters_for_other_books(self):
        events = [("letter", letter(5)), ("letter", letter(6, 5))]
        text = "mark a\nrule coming mark a if not thread a"
        self.assertNotEqual(played(text, events).summary(), played(text, events[::-1]).summary())


class AtRandom(unittest.TestCase):
    def check(self, house, slow):
        self.assertEqual(house.summary(), slow.summary())
        self.assertEqual(set(each.number for each in house), set(slow.letters))
        for number in slow.letters:
            self.assertEqual(house.sight_of(number), slow.sights[number])
            stamped = house.stamp_of(number)
            self.assertEqual((stamped.marks, stamped.standings), slow.stamps[number])
            self.assertEqual(house.marks_of(number), slow.marks(number))
            self.assertEqual(house.hands_of(number), slow.hands(number))
            self.assertEqual(house.thread_marks_of(number), slow.had(number))
            self.assertEqual(house.thread_of(number), min(slow.thread(number)))
            self.assertEqual(house.members_of(number), slow.members(number))
        for number in range(1, 9):
            last = slow.last(number)
            self.assertIs(house.seen_of(number), last is not None and last[2])
        for person in ("ann at oak", "bob at elm", "ann at ash"):
            self.assertEqual(house.standings_of(person), slow.standings(person))

    def test_rows_of_events(self):
        rng = random.Random(73)
        stamped = 0
        for _ in range(150):
            book = Book.read(random_book_text(rng))
            if book.ring is not None:
                continue
            events = random_events(rng, book, rng.randint(0, 25))
            house, slow = House(book), SlowHouse(book)
            self.assertEqual(house.play(events), slow.play(events))
            self.check(house, slow)
            stamped += sum(pair != ((), ()) for pair in slow.stamps.values())
        self.assertTrue(stamped > 100)

    def test_rows_with_edits_between(self):
        rng = random.Random(74)
        edits = 0
        for _ in range(120):
            rows, marks, standings, tests = random_ground(rng)
            books = []
            for _ in range(3):
                told = [random_rule(rng, marks, standings, tests) for _ in range(rng.randint(0, 5))]
                books.append(Book.read("\n".join(rows + [rule_row(row[0], row[1]) for row in told if row])))
            books = [book for book in books if book.ring is None]
            if not books:
                continue
            house, slow = House(books[0]), SlowHouse(books[0])
            for book in books:
                edits += 1
                trial = house.tried(book, lambda asked: asked.summary())
                self.assertEqual(house.summary(), slow.summary())
                house.edit(book)
                slow.book = book
                self.assertEqual(house.summary(), trial)
                self.assertEqual(house.anew().summary(), trial)
                for event in random_events(rng, book, 10):
                    if event[0] != "letter" or event[1] == slow.letters.get(event[1].number, event[1]):
                        self.assertEqual(house.play([event]), slow.play([event]))
                self.check(house, slow)
        self.assertTrue(edits > 100)

    def test_hands_and_words_in_another_order(self):
        rng = random.Random(75)
        for _ in range(80):
            book = Book.read(random_book_text(rng))
            if book.ring is not None:
                continue
            events = random_events(rng, book, 25)
            letters = [event for event in events if event[0] == "letter"]
            others = [event for event in events if event[0] != "letter"]
            told = []
            for _ in range(3):
                rng.shuffle(others)
                house = House(book)
                house.play(letters + others)
                told.append((house.summary(), house.deeds()))
            self.assertEqual(told[0], told[1])
            self.assertEqual(told[0], told[2])


if __name__ == "__main__":
    unittest.main()
