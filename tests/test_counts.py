"""Counts: [112]."""

import random
import unittest

from filedalike.book import Book
from filedalike.counts import Counts
from filedalike.desk import Desk
from filedalike.letters import Letter
from filedalike.query import At, Bears, Every, From, Not, Says, Seen
from tests.housemodel import random_events
from tests.models import random_book_text
from tests.querymodel import random_query, slow_search

TEXT = "mark hot by hand\nmark new\nmark abcdefgh by hand\ntest word x\nrule always mark new if test 1"


def mail(number, *answers, person="ann", home="oak", words=()):
    return "letter", Letter(number, person, home, answers=answers, words=words)


def filled():
    desk = Desk(Book.read(TEXT))
    desk.play([
        mail(9, 4, words=["x"]), mail(5, 4, person="bob", words=["x"]), mail(7),
        mail(20, person="abcdefgh", home="abcdefgh"), ("mark", 9, "hot"), ("mark", 5, "abcdefgh"),
        ("mark", 7, "hot"), ("mark", 30, "hot"),
        ("seen", 9, True, 1, "d"), ("seen", 30, False, 1, "d"), ("seen", 5, False, 1, "d"),
    ])
    return desk


class Counting(unittest.TestCase):
    def test_by_mark(self):
        self.assertEqual(Counts(filled()).by_mark(), [("hot", 2), ("new", 2), ("abcdefgh", 1)])
        self.assertEqual(Counts(Desk(Book.read("mark b\nmark a"))).by_mark(), [("b", 0), ("a", 0)])
        self.assertEqual(Counts(Desk(Book.read(""))).by_mark(), [])

    def test_by_sender(self):
        self.assertEqual(
            Counts(filled()).by_sender(), [("abcdefgh at abcdefgh", 1, 1), ("ann at oak", 2, 1), ("bob at oak", 1, 1)],
        )
        desk = Desk(Book.read("standing vip by hand"))
        desk.give("ann at oak", "vip")
        # A sender without a letter is not counted.
        self.assertEqual(Counts(desk).by_sender(), [])

    def test_by_thread(self):
        self.assertEqual(Counts(filled()).by_thread(), [(4, 2, 1), (7, 1, 1), (20, 1, 1)])
        desk = Desk(Book.read(""))
        desk.play([mail(10 ** 30), mail(9), ("seen", 9, True, 1, "d")])
        self.assertEqual(Counts(desk).by_thread(), [(9, 1, 0), (10 ** 30, 1, 1)])

    def test_facets(self):
        counts = Counts(filled())
        self.assertEqual(counts.facets(Every()), [("hot", 2), ("new", 2), ("abcdefgh", 1)])
        self.assertEqual(counts.facets(From("bob at oak")), [("new", 1), ("abcdefgh", 1)])
        self.assertEqual(counts.facets(Says("x")), [("new", 2), ("hot", 1), ("abcdefgh", 1)])
        self.assertEqual(counts.facets(At("abcdefgh")), [])
        self.assertEqual(counts.facets(Not(Every())), [])

    def test_spread(self):
        counts = Counts(filled())
        self.assertEqual(counts.spread(Every()), [
            "sender                    hot      new abcdefgh",
            "abcdefgh at abcdefgh        0        0        0",
            "ann at oak                  2        1        0",
            "bob at oak                  0        1        1",
            "all                         2        2        1",
        ])
        self.assertEqual(counts.spread(Says("x")), [
            "sender                    hot      new abcdefgh",
            "ann at oak                  1        1        0",
            "bob at oak                  0        1        1",
            "all                         1        2        1",
        ])
        self.assertEqual(counts.spread(Not(Every())), [
            "sender                    hot      new abcdefgh",
            "all                         0        0        0",
        ])

    def test_spread_without_marks(self):
        desk = Desk(Book.read(""))
        desk.play([mail(5)])
        self.assertEqual(Counts(desk).spread(Every()), ["sender" + " " * 14, "ann at oak" + " " * 10, "all" + " " * 17])

    def test_total(self):
        counts = Counts(filled())
        self.assertEqual((counts.total(), counts.total(None), counts.total(query=Every())), (4, 4, 4))
        self.assertEqual((counts.total(Seen()), counts.total(Bears("none")), counts.total(Says("x"))), (1, 0, 2))
        self.assertEqual(Counts(Desk(Book.read(""))).total(), 0)

    def test_the_desk_is_asked_anew(self):
        desk = filled()
        counts = Counts(desk)
        counts.by_sender()
        desk.play([mail(6, person="bob"), ("seen", 6, True, 1, "d"), ("mark", 6, "hot")])
        self.assertEqual(counts.total(), 5)
        self.assertEqual(counts.by_sender()[2], ("bob at oak", 2, 1))
        self.assertEqual(counts.by_thread()[1], (6, 1, 0))
        self.assertEqual(counts.by_mark()[0], ("hot", 3))
        self.assertEqual(counts.facets(Every())[0], ("hot", 3))
        desk.edit(Book.read(TEXT.replace("new if test 1", "new")))
        self.assertEqual(counts.by_mark()[1], ("new", 5))

    def test_lists_are_new(self):
        counts = Counts(filled())
        asked = (
            counts.by_mark, counts.by_sender, counts.by_thread, lambda: counts.facets(Every()),
            lambda: counts.spread(Every()),
        )
        for ask in asked:
            told = ask()
            self.assertIsInstance(told, list)
            ask().clear()
            self.assertEqual(ask(), told)

    def test_at_random(self):
        rng = random.Random(181)
        for _ in range(80):
            book = Book.read(random_book_text(rng))
            if book.ring is not None:
                continue
            desk = Desk(book)
            desk.play(random_events(rng, book, 20))
            self.check(desk, random_query(rng, 3))

    def check(self, desk, query):
        house, counts, marks = desk.house, Counts(desk), desk.house.book.marks
        letters, found = list(house), slow_search(house, query)
        self.assertEqual(counts.total(query), len(found))
        self.assertEqual(counts.total(), len(letters))
        borne = {mark: [letter for letter in letters if mark in house.marks_of(letter.number)] for mark in marks}
        self.assertEqual(counts.by_mark(), [(mark, len(borne[mark])) for mark in marks])
        for told, key in (
            (counts.by_sender(), lambda letter: letter.sender),
            (counts.by_thread(), lambda letter: house.thread_of(letter.number)),
        ):
            rows = []
            for name in sorted({key(letter) for letter in letters}):
                own = [letter for letter in letters if key(letter) == name]
                rows.append((name, len(own), sum(not house.seen_of(letter.number) for letter in own)))
            self.assertEqual(told, rows)
        many = [sum(letter.number in found for letter in borne[mark]) for mark in marks]
        order = sorted(range(len(marks)), key=lambda at: (-many[at], at))
        self.assertEqual(counts.facets(query), [(marks[at], many[at]) for at in order if many[at]])
        rows = counts.spread(query)
        senders = sorted({house[number].sender for number in found})
        self.assertEqual([row[:20].rstrip() for row in rows], ["sender"] + senders + ["all"])
        self.assertEqual([row[20:].split() for row in rows[:1]], [list(marks)])
        self.assertEqual([int(part) for part in rows[-1][20:].split()], many)
        self.assertEqual({len(row) for row in rows}, {20 + 9 * len(marks)})
        for sender, row in zip(senders, rows[1:]):
            told = [sum(l.sender == sender and l.number in found for l in borne[mark]) for mark in marks]
            self.assertEqual([int(part) for part in row[20:].split()], told)


if __name__ == "__main__":
    unittest.main()
