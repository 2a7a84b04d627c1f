"""The plain run: [85], [93]."""

import random
import unittest

from filedalike.book import Book
from filedalike.errors import Clash
from filedalike.house import House, NotByHand
from filedalike.letters import Letter
from filedalike.plainrun import plain_run
from tests.housemodel import random_events
from tests.models import random_ground, random_rule, rule_row

GROUND = "mark c by hand\nmark a\nmark b\nstanding v\nstanding u by hand\ntest word x"


def book_of(*rows):
    return Book.read("\n".join((GROUND,) + rows))


def letter(number, *answers, words=(), person="ann"):
    return "letter", Letter(number, person, "oak", answers=answers, words=words)


def told_by(house, stages):
    """What a house tells that does what stages say."""
    senders = {letter.sender for letter in house}
    senders |= {event[1] for _, events in stages for event in events if event[0] == "standing"}
    return (
        [(number, house.marks_of(number)) for number in sorted(each.number for each in house)],
        [(sender, house.standings_of(sender)) for sender in sorted(senders)],
    )


class Runs(unittest.TestCase):
    def check(self, told, *stages):
        before = [(book.written(), list(events)) for book, events in stages]
        found = plain_run(*stages)
        self.assertIsInstance(found, tuple)
        self.assertEqual([type(part) for part in found], [list, list])
        self.assertEqual(found, told)
        self.assertEqual([(book.written(), list(events)) for book, events in stages], before)

    def test_no_stages(self):
        self.check(([], []))
        self.check(([], []), (book_of(), []))

    def test_one_stage(self):
        book = book_of(
            "rule coming mark a if test 1", "rule coming standing v if thread a", "rule always mark b if thread c",
        )
        self.check(
            ([(3, ("a",)), (5, ("b",)), (9, ("c", "b"))], [("ann at oak", ("v",)), ("bob at oak", ())]),
            (book, [
                letter(9, 7), letter(5, 7, person="bob"), ("mark", 9, "c"), letter(3, words=["x"]), ("mark", 20, "c"),
                letter(9, 7), ("seen", 9, True, 1, "d"),
            ]),
        )

    def test_senders_of_standing_events(self):
        self.check(
            ([(1, ())], [("ann at oak", ("u",)), ("x at y", ("u",)), ("z at y", ("u",))]),
            (book_of(), [
                ("standing", "z at y", "u"), ("standing", "x at y", "u"), letter(1), ("standing", "ann at oak", "u"),
            ]),
        )

    def test_words_leave_no_trace(self):
        self.check(([], []), (book_of(), [("seen", 9, True, 1, "d")]))

    def test_marks_ahead_of_their_letter(self):
        book = book_of("rule coming mark a if thread c", "rule always mark b if thread c")
        self.check(
            ([(1, ("c", "b")), (2, ("a", "b"))], [("ann at oak", ())]),
            (book, [("mark", 1, "c"), letter(1), letter(2, 1)]),
        )

    def test_a_new_stage_edits_the_book(self):
        first, second = book_of("rule coming mark a", "rule always mark b"), book_of("rule always mark c if thread a")
        events = [letter(1)]
        self.check(([(1, ("a", "b"))], [("ann at oak", ())]), (first, events))
        self.check(([(1, ("c", "a"))], [("ann at oak", ())]), (first, events), (second, []))
        self.check(([(1, ("c", "a")), (2, ("c",))], [("ann at oak", ())]), (first, events), (second, [letter(2, 1)]))
        self.check(([(1, ())], [("ann at oak", ())]), (second, events))
        self.check(([(1, ("b",))], [("ann at oak", ())]), (second, events), (first, events))

    def test_a_clash(self):
        for stages in (
            [(book_of(), [letter(1), letter(2), letter(2, 1)])],
            [(book_of(), [letter(2)]), (book_of(), [letter(2, 1)])],
        ):
            with self.assertRaises(Clash) as caught:
                plain_run(*stages)
            self.assertEqual(caught.exception.number, 2)

    def test_not_by_hand(self):
        for event, name in (
            (("mark", 1, "a"), "a"), (("mark", 1, "u"), "u"), (("standing", "a at b", "v"), "v"),
            (("standing", "a at b", "c"), "c"),
        ):
            with self.assertRaises(NotByHand) as caught:
                plain_run((book_of(), [letter(1), event, letter(1, 2)]))
            self.assertEqual(caught.exception.name, name)

    def test_houses_at_random(self):
        rng = random.Random(151)
        borne = 0
        for _ in range(150):
            rows, marks, standings, tests = random_ground(rng)
            books = []
            for _ in range(rng.randint(1, 3)):
                told = [random_rule(rng, marks, standings, tests) for _ in range(rng.randint(0, 5))]
                books.append(Book.read("\n".join(rows + [rule_row(row[0], row[1]) for row in told if row])))
            books = [book for book in books if book.ring is None]
            if not books:
                continue
            events = random_events(rng, books[0], 24)
            cuts = sorted(rng.randint(0, 24) for _ in books[1:])
            parts = [events[start:end] for start, end in zip([0] + cuts, cuts + [24])]
            stages = list(zip(books, parts))
            house = House(books[0])
            for book, part in stages:
                house.edit(book)
                house.play(part)
            told = told_by(house, stages)
            self.check(told, *stages)
            borne += sum(len(row[1]) for row in told[0])
        self.assertTrue(borne > 200)


if __name__ == "__main__":
    unittest.main()
