"""The desk and its watches: [110], [111]."""

import random
import unittest
from unittest import mock

from filedalike import desk as desk_module
from filedalike.book import Book, OtherGround
from filedalike.desk import Desk, NoWatch
from filedalike.errors import Clash
from filedalike.house import BadEvent, House, NotByHand
from filedalike.letters import Letter
from filedalike.papers import search
from filedalike.query import Among, At, Bears, Every, From, Not, Says, Seen, Stands
from filedalike.strata import RingThroughLacks
from tests.housemodel import random_events
from tests.models import random_book_text, random_ground, random_rule, rule_row
from tests.querymodel import random_query, slow_search

GROUND = "mark hot by hand\nmark new\nstanding vip\nstanding big by hand\ntest word x"
RULES = ("rule coming standing vip if test 1", "rule always mark new if thread hot")
QUERIES = (
    Every(), Says("x"), Says("y"), Bears("hot"), Bears("new"), Stands("vip"), Stands("big"), Seen(), At("oak"),
    From("ann at oak"), Among(Bears("hot")), Among(Seen()), Not(Among(Says("x"))), Not(Bears("new")),
)


def book_of(*rows):
    return Book.read("\n".join((GROUND,) + rows))


def mail(number, *answers, person="ann", home="oak", words=()):
    return Letter(number, person, home, answers=answers, words=words)


def new_desk():
    return Desk(book_of(*RULES))


class Deeds(unittest.TestCase):
    def check(self, desk):
        for query in QUERIES:
            self.assertEqual(desk.find(query), slow_search(desk.house, query), query.written())

    def test_a_new_desk(self):
        book = book_of(*RULES)
        desk = Desk(book)
        self.assertIsInstance(desk.house, House)
        self.assertIs(desk.house.book, book)
        self.assertEqual((desk.find(Every()), desk.watches()), ([], []))
        with self.assertRaises(RingThroughLacks) as caught:
            Desk(book_of("rule always mark new if not thread new"))
        self.assertEqual(caught.exception.ring, ((1, "new", "new"),))

    def test_coming(self):
        desk = new_desk()
        self.assertIs(desk.come(mail(5)), True)
        self.check(desk)
        self.assertIs(desk.come(mail(5)), False)
        # The sender gets a standing, in another thread.
        self.assertIs(desk.come(mail(7, words=["x"])), True)
        self.assertEqual(desk.find(Stands("vip")), [5, 7])
        self.check(desk)
        with self.assertRaises(Clash) as caught:
            desk.come(mail(7))
        self.assertEqual(caught.exception.number, 7)
        self.check(desk)

    def test_threads_that_a_letter_unites(self):
        desk = new_desk()
        desk.come(mail(5, 20))
        desk.come(mail(7, 21))
        desk.put(7, "hot")
        self.assertEqual(desk.find(Bears("new")), [7])
        desk.come(mail(9, 20, 21, person="bob"))
        self.assertEqual(desk.find(Bears("new")), [5, 7, 9])
        self.check(desk)

    def test_hands(self):
        desk = new_desk()
        for event in (mail(5), mail(7, 5, person="bob"), mail(9)):
            desk.come(event)
        self.assertIs(desk.put(5, "hot"), True)
        self.assertIs(desk.put(5, "hot"), False)
        self.assertEqual((desk.find(Bears("hot")), desk.find(Bears("new"))), ([5], [5, 7]))
        self.assertIs(desk.give("ann at oak", "big"), True)
        self.assertIs(desk.give("ann at oak", "big"), False)
        self.assertEqual(desk.find(Stands("big")), [5, 9])
        self.check(desk)
        for call, name in ((lambda: desk.put(9, "new"), "new"), (lambda: desk.give("ann at oak", "vip"), "vip")):
            with self.assertRaises(NotByHand) as caught:
                call()
            self.assertEqual(caught.exception.name, name)
        with self.assertRaises(NotByHand):
            desk.put(9, 5)
        self.check(desk)

    def test_deeds_ahead_of_the_letter(self):
        desk = new_desk()
        self.assertIs(desk.put(5, "hot"), True)
        self.assertIs(desk.give("ann at oak", "big"), True)
        self.assertIs(desk.see(5, True, count=1, device="d"), True)
        self.assertEqual([desk.find(query) for query in QUERIES], [[]] * len(QUERIES))
        desk.come(mail(5))
        for query in (Bears("hot"), Stands("big"), Seen()):
            self.assertEqual(desk.find(query), [5])
        self.check(desk)

    def test_words(self):
        desk = new_desk()
        desk.come(mail(5))
        self.assertIs(desk.see(5, True, count=2, device="d"), True)
        self.assertIs(desk.see(5, True, count=2, device="d"), False)
        self.assertIs(desk.see(5, False, count=1, device="d"), False)
        self.assertEqual(desk.find(Seen()), [5])
        self.assertIs(desk.see(5, False, count=3, device="d"), True)
        self.assertEqual(desk.find(Seen()), [])

    def test_edits(self):
        desk = new_desk()
        desk.play([("letter", mail(5)), ("letter", mail(7, 5, words=["x"])), ("letter", mail(9)), ("mark", 5, "hot")])
        self.assertIsNone(desk.edit(book_of("rule always mark new if not thread hot")))
        self.assertEqual(desk.find(Bears("new")), [9])
        self.check(desk)
        before = desk.house.summary()
        with self.assertRaises(OtherGround) as caught:
            desk.edit(Book.read("mark hot"))
        self.assertEqual(caught.exception.part, "marks")
        with self.assertRaises(RingThroughLacks):
            desk.edit(book_of("rule always mark new if not thread new"))
        self.assertEqual(desk.house.summary(), before)
        self.check(desk)

    def test_trials_of_the_house(self):
        desk = new_desk()
        desk.play([("letter", mail(5)), ("letter", mail(7, 5)), ("letter", mail(9)), ("mark", 5, "hot")])
        other = book_of("rule always mark new if not thread hot")

        def found(house):
            self.check(desk)
            return desk.find(Bears("new")), house.tried(book_of(), lambda asked: desk.find(Bears("new")))

        self.assertEqual(desk.house.tried(other, found), ([9], []))
        with self.assertRaises(ZeroDivisionError):
            desk.house.tried(other, lambda house: 1 // 0)
        self.assertEqual(desk.find(Bears("new")), [5, 7])
        self.check(desk)
        desk.come(mail(11, 9))
        desk.put(11, "hot")
        self.assertEqual(desk.find(Bears("new")), [5, 7, 9, 11])
        self.check(desk)

    def test_deeds_in_any_order(self):
        rng = random.Random(172)
        many = 0
        for _ in range(80):
            book = Book.read(random_book_text(rng, "always"))
            if book.ring is not None or not book.rules:
                continue
            many += 1
            desk = Desk(book)
            desk.play(random_events(rng, book, 20))
            deeds = desk.house.deeds()
            rng.shuffle(deeds)
            other = Desk(book)
            other.play(deeds)
            self.assertEqual(other.house.summary(), desk.house.summary())
            for query in QUERIES + (random_query(rng, 4),):
                self.assertEqual(other.find(query), desk.find(query))
        self.assertTrue(many > 20)

    def test_plays(self):
        desk = new_desk()
        events = [("letter", mail(5)), ("mark", 5, "hot"), ("mark", 5, "hot"), ("seen", 5, True, 1, "d")]
        self.assertEqual(desk.play(events), [True, True, False, True])
        self.assertEqual(desk.play([]), [])
        self.check(desk)
        for wrong, made, name, value in (
            (("letter", mail(5, 6)), Clash, "number", 5), (("mark", 5, "new"), NotByHand, "name", "new"),
            (("mark", 5), BadEvent, "index", 1), (None, BadEvent, "index", 1),
            (("standing", "ann at oak", "vip"), NotByHand, "name", "vip"),
        ):
            number = len(desk.house) + 10
            later = ("letter", mail(99))
            with self.assertRaises(made) as caught:
                desk.play([("letter", mail(number, words=["x"])), wrong, later])
            self.assertEqual(getattr(caught.exception, name), value)
            # The event before stays done, those behind are not done.
            self.assertTrue(number in desk.find(Says("x")) and 99 not in desk.find(Every()))
            self.check(desk)

    def test_deeds_do_what_those_of_a_house_do(self):
        events = [
            ("letter", mail(5, words=["x"])), ("mark", 5, "hot"), ("standing", "bob at elm", "big"),
            ("seen", 5, True, 1, "d"), ("letter", mail(7, 5)), ("letter", mail(5, words=["x"])),
        ]
        desk, house = new_desk(), House(book_of(*RULES))
        self.assertEqual(desk.play(events), house.play(events))
        self.assertEqual(desk.house.summary(), house.summary())


class Finding(unittest.TestCase):
    def filled(self):
        desk = new_desk()
        desk.play([("letter", mail(number)) for number in range(40, 10, -1)])
        return desk

    def test_first_found(self):
        desk = self.filled()
        self.assertEqual(desk.first_found(Every()), list(range(11, 21)))
        self.assertEqual(desk.first_found(Every(), 3), [11, 12, 13])
        self.assertEqual(desk.first_found(Every(), count=0), [])
        self.assertEqual(desk.first_found(Every(), 99), list(range(11, 41)))
        self.assertEqual(desk.first_found(Not(Every())), [])

    def test_each_found(self):
        desk = self.filled()
        found = desk.each_found(Every())
        self.assertIs(iter(found), found)
        self.assertEqual(next(found), 11)
        self.assertEqual(list(found), list(range(12, 41)))
        self.assertEqual(list(desk.each_found(Not(Every()))), [])

    def test_lists_are_new(self):
        desk = self.filled()
        for ask in (lambda: desk.find(Every()), lambda: desk.first_found(Every(), 99)):
            self.assertIsInstance(ask(), list)
            ask().clear()
            self.assertEqual(len(ask()), 30)

    def test_finding_needs_only_the_index(self):
        desk = self.filled()
        with mock.patch.object(desk_module, "keys_of", side_effect=AssertionError):
            self.assertEqual(desk.find(From("ann at oak")), list(range(11, 41)))


class Renewing(unittest.TestCase):
    def test_only_what_a_deed_touches_is_renewed(self):
        desk = new_desk()
        renewed = []

        def logged(house, number):
            renewed.append(number)
            return keys_of(house, number)

        def check(call, *numbers):
            renewed.clear()
            call()
            self.assertEqual(sorted(renewed), list(numbers))

        keys_of = desk_module.keys_of
        with mock.patch.object(desk_module, "keys_of", logged):
            check(lambda: desk.come(mail(5, person="bob")), 5)
            check(lambda: desk.come(mail(6)), 6)
            check(lambda: desk.come(mail(7, 5)), 7)
            check(lambda: desk.come(mail(7, 5)))
            check(lambda: desk.come(mail(8, person="cob")), 8)
            check(lambda: desk.put(7, "hot"), 5, 7)
            check(lambda: desk.put(7, "hot"))
            check(lambda: desk.put(9, "hot"))
            check(lambda: desk.give("ann at oak", "big"), 6, 7)
            check(lambda: desk.give("ann at oak", "big"))
            check(lambda: desk.give("eve at elm", "big"))
            check(lambda: desk.see(8, True, count=1, device="d"), 8)
            check(lambda: desk.see(8, True, count=1, device="d"))
            check(lambda: desk.see(9, True, count=1, device="d"))
            check(lambda: desk.come(mail(9, 8, person="eve")), 8, 9)
            check(lambda: desk.come(mail(4, words=["x"])), 4, 4, 6, 7)
            check(lambda: desk.edit(book_of()), 4, 5, 6, 7, 8, 9)

    def test_long_threads(self):
        desk = new_desk()
        for number in range(1, 1201):
            desk.come(mail(number + 1, number, person="ann" if number < 600 else "bob"))
        desk.put(5, "hot")
        self.assertEqual(desk.find(Bears("new")), list(range(2, 1202)))
        self.assertEqual(len(desk.find(Among(From("bob at oak")))), 1200)
        self.assertEqual(len(search(desk.house, Among(Bears("hot")))), 1200)


class Watches(unittest.TestCase):
    def test_news(self):
        desk = new_desk()
        desk.play([("letter", mail(5)), ("letter", mail(7, 5))])
        self.assertIsNone(desk.watch("unseen", Not(Seen())))
        self.assertEqual(desk.news("unseen"), ([5, 7], []))
        self.assertEqual(desk.news("unseen"), ([], []))
        desk.see(5, True, count=1, device="d")
        desk.come(mail(3))
        self.assertEqual(desk.news("unseen"), ([3], [5]))
        # What came and went in between is no news.
        desk.see(3, True, count=1, device="d")
        desk.see(3, False, count=2, device="d")
        self.assertEqual(desk.news("unseen"), ([], []))
        desk.see(5, False, count=2, device="d")
        self.assertEqual(desk.news("unseen"), ([5], []))

    def test_lists_are_ascending_and_new(self):
        desk = new_desk()
        desk.watch("all", Every())
        desk.play([("letter", mail(number)) for number in (9, 4, 30, 7)])
        news = desk.news("all")
        self.assertEqual(news, ([4, 7, 9, 30], []))
        self.assertEqual([type(part) for part in news], [list, list])
        self.assertIsInstance(news, tuple)
        news[0].clear()
        self.assertEqual(desk.news("all"), ([], []))

    def test_watches_are_apart(self):
        desk = new_desk()
        desk.watch("b", Every())
        desk.watch("a", Every())
        desk.come(mail(5))
        self.assertEqual(desk.news("a"), ([5], []))
        self.assertEqual(desk.news("b"), ([5], []))
        self.assertEqual(desk.watches(), ["a", "b"])
        desk.watches().clear()
        self.assertEqual(desk.watches(), ["a", "b"])

    def test_a_new_watch_in_the_place_of_an_older_one(self):
        desk = new_desk()
        desk.come(mail(5))
        desk.watch("a", Every())
        desk.news("a")
        desk.watch("a", Every())
        self.assertEqual(desk.news("a"), ([5], []))
        desk.watch("a", Seen())
        self.assertEqual((desk.news("a"), desk.watches()), (([], []), ["a"]))

    def test_an_edit_is_news(self):
        desk = new_desk()
        desk.play([("letter", mail(5)), ("letter", mail(7, 5)), ("mark", 5, "hot")])
        desk.watch("new", Bears("new"))
        self.assertEqual(desk.news("new"), ([5, 7], []))
        desk.edit(book_of())
        self.assertEqual(desk.news("new"), ([], [5, 7]))

    def test_watches_that_are_not_there(self):
        desk = new_desk()
        desk.watch("a", Every())
        desk.watch("b", Every())
        self.assertIsNone(desk.unwatch("a"))
        for call in (lambda: desk.news("a"), lambda: desk.unwatch("a"), lambda: desk.news("c")):
            with self.assertRaises(NoWatch) as caught:
                call()
            self.assertIn(caught.exception.name, ("a", "c"))
        self.assertEqual(desk.watches(), ["b"])
        desk.watch("a", Every())
        self.assertEqual(desk.news("a"), ([], []))


class AtRandom(unittest.TestCase):
    def test_find_equals_search(self):
        rng = random.Random(171)
        for _ in range(60):
            rows, marks, standings, tests = random_ground(rng)
            books = []
            for _ in range(2):
                told = [random_rule(rng, marks, standings, tests) for _ in range(rng.randint(0, 5))]
                books.append(Book.read("\n".join(rows + [rule_row(row[0], row[1]) for row in told if row])))
            books = [book for book in books if book.ring is None]
            if not books:
                continue
            desk, house = Desk(books[0]), House(books[0])
            query = random_query(rng, 3)
            desk.watch("w", query)
            before = []
            for at, event in enumerate(random_events(rng, books[0], 20)):
                if at == 10:
                    desk.edit(books[-1])
                    house.edit(books[-1])
                self.assertEqual(desk.play([event]), house.play([event]))
                for asked in [random_query(rng, 4) for _ in range(3)] + [query]:
                    told = search(house, asked)
                    self.assertEqual(desk.find(asked), told)
                    self.assertEqual(told, slow_search(house, asked))
                if rng.random() < 0.3:
                    now = desk.find(query)
                    come = [number for number in now if number not in before]
                    gone = [number for number in before if number not in now]
                    self.assertEqual(desk.news("w"), (come, gone))
                    before = now
            self.assertEqual(desk.house.summary(), house.summary())


if __name__ == "__main__":
    unittest.main()
