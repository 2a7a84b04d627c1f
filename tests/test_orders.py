"""Verdicts, departures and building events: [6], [63], [67] to [70], [77]."""

import random
import unittest

from filedalike.always import View
from filedalike.book import Book
from filedalike.closure import Closure, NoView
from filedalike.house import House
from filedalike.kinds import house_of, kind_of, kinds, kinds_of_sender, letter_of, sender_kind, sender_kinds
from filedalike.letters import BadLetter, Letter
from filedalike.orders import Bound, Free, Verdict, departures, judge, sender_events, thread_events
from filedalike.stamps import Stamp, empty_stamp, stamp
from filedalike.strata import RingThroughLacks
from tests.housemodel import SlowHouse, random_events
from tests.reachmodel import SlowReach
from tests.test_closure import LARGEST, RINGED, TEXT, random_books

FREE = "\n".join([
    "mark a by hand", "mark b", "standing v by hand", "test word x", "rule coming mark b if test 1",
    "rule always mark a if thread b", "rule coming standing v if not test 1", "rule coming mark b if thread a, test 1",
])


def plain(departure):
    cost, kind, view, standings = departure
    return cost, kind, view.key(), standings


def person_of(sender):
    return sender.split(" ")[0]


class Verdicts(unittest.TestCase):
    def test_a_free_book(self):
        book = Book.read(FREE)
        verdict = judge(book)
        self.assertIsInstance(verdict, Free)
        self.assertIsInstance(verdict, Verdict)
        self.assertIs(verdict.book, book)
        self.assertIs(verdict.free, True)
        self.assertEqual(verdict.table(), [((False,), Stamp([], ["v"])), ((True,), Stamp(["b"], []))])
        self.assertEqual([row[1].rules for row in verdict.table()], [(3,), (1,)])
        verdict.table().clear()
        self.assertEqual(len(verdict.table()), 2)
        self.assertEqual(list(departures(Closure(book))), [])

    def test_the_book_without_rows(self):
        verdict = judge(Book.read(""))
        self.assertIs(verdict.free, True)
        self.assertEqual(verdict.table(), [((), Stamp([], []))])

    def test_a_table_has_the_possible_kinds(self):
        book = Book.read("mark a\ntest word x\ntest words 1\nrule coming mark a if test 1")
        self.assertEqual([kind for kind, _ in judge(book).table()], [(False, False), (False, True), (True, True)])

    def test_a_bound_book(self):
        book = Book.read("mark a\ntest word x\nrule coming mark a if not thread a, test 1")
        verdict = judge(book)
        self.assertIsInstance(verdict, Bound)
        self.assertIsInstance(verdict, Verdict)
        self.assertIs(verdict.book, book)
        self.assertIs(verdict.free, False)
        self.assertEqual((verdict.cost, verdict.kind, verdict.view, verdict.standings), (1, (True,), View(["a"]), ()))
        self.assertEqual((verdict.number, verdict.here, verdict.alone), (2, Stamp([], []), Stamp(["a"], [])))
        last = ("letter", letter_of(book.tests, (True,), number=2, answers=(1,)))
        other = ("letter", letter_of(book.tests, (True,), number=1, person="b"))
        self.assertEqual(verdict.first_order(), [other, last])
        self.assertEqual(verdict.second_order(), [last, other])
        for ask in (verdict.first_order, verdict.second_order):
            self.assertIsInstance(ask(), list)
            ask().clear()
            self.assertEqual(len(ask()), 2)

    def test_standings_alone_bind(self):
        book = Book.read("mark a\nstanding v by hand\ntest house elm\nrule coming mark a if sender v, test 1")
        verdict = judge(book)
        self.assertEqual((verdict.cost, verdict.kind, verdict.view, verdict.standings), (1, (True,), View(), ("v",)))
        self.assertEqual((verdict.number, verdict.here, verdict.alone), (1, Stamp(["a"], []), Stamp([], [])))
        letter = letter_of(book.tests, (True,), house="elm")
        self.assertEqual(verdict.first_order(), [("standing", "a at elm", "v"), ("letter", letter)])
        self.assertEqual(verdict.second_order(), [("letter", letter), ("standing", "a at elm", "v")])

    def test_a_longer_first_order(self):
        verdict = judge(Book.read(TEXT + "\nrule coming mark c if thread b, sender v, not test 1"))
        self.assertIs(verdict.free, False)
        # A letter of v's sender with the word gets no a: cost 2 for the standing.
        self.assertEqual((verdict.cost, verdict.kind, verdict.view, verdict.standings), (1, (False,), View(["a"]), ()))

    def test_rings_come_first(self):
        with self.assertRaises(RingThroughLacks) as caught:
            judge(Book.read(RINGED))
        self.assertEqual(caught.exception.ring, ((1, "a", "a"),))

    def test_unlike_gifts_of_equal_stamps_do_not_bind(self):
        # The rules that fire differ, the stamps do not.
        book = Book.read("mark a\nrule coming mark a if thread a\nrule coming mark a")
        self.assertIs(judge(book).free, True)

    def test_the_main_statement_at_random(self):
        rng = random.Random(111)
        found = {True: 0, False: 0}
        for book in random_books(112, 150):
            verdict = judge(book)
            found[verdict.free] += 1
            if verdict.free:
                table = dict((kind, told) for kind, told in verdict.table())
                rows = random_events(rng, book, 20)
                one, other = House(book), House(book)
                one.play(rows)
                for letter in one:
                    self.assertEqual(one.stamp_of(letter.number), table[kind_of(book.tests, letter)])
                rng.shuffle(rows)
                other.play(rows)
                self.assertEqual(one.summary(), other.summary())
                self.assertEqual([kind for kind, _ in verdict.table()], kinds(book.tests))
                self.assertTrue(all(told == empty_stamp(book, kind) for kind, told in verdict.table()))
        self.assertTrue(min(found.values()) > 30)


class Departures(unittest.TestCase):
    def test_it_is_a_generator(self):
        found = departures(Closure(Book.read("mark a\nrule coming mark a if not thread a")))
        self.assertIs(iter(found), found)
        self.assertEqual(plain(next(found)), (1, (), (("a",), ()), ()))

    def test_departures_at_random(self):
        many = 0
        for book in random_books(113, 150):
            closure = Closure(book)
            found = list(departures(closure))
            self.assertEqual([plain(each) for each in found], SlowReach(book).departures())
            for _, kind, view, standings in found[:3]:
                self.assertIsInstance(view, View)
                cost = closure.joined_cost(view)
                cost += closure.sender_cost(sender_kind(book.tests, letter_of(book.tests, kind).house), standings)
                self.assertEqual(cost, found[0][0] if (kind, view, standings) == found[0][1:] else cost)
            verdict = judge(book)
            self.assertIs(verdict.free, not found)
            if found:
                many += 1
                self.assertEqual((verdict.cost, verdict.kind, verdict.view, verdict.standings), found[0])
        self.assertTrue(many > 30)

    def test_ties_of_cost(self):
        book = Book.read("\n".join([
            "mark a", "standing v by hand", "test word x", "rule coming mark a if not thread a, not sender v",
        ]))
        found = [plain(each) for each in departures(Closure(book))]
        self.assertEqual(found, [
            (1, (False,), ((), ()), ("v",)), (1, (False,), (("a",), ()), ()), (1, (True,), ((), ()), ("v",)),
            (1, (True,), (("a",), ()), ()), (2, (False,), (("a",), ()), ("v",)), (2, (True,), (("a",), ()), ("v",)),
        ])

    def test_the_largest_books(self):
        found = [plain(each) for each in departures(Closure(Book.read(LARGEST)))]
        self.assertEqual(found, SlowReach(Book.read(LARGEST)).departures())
        self.assertTrue(len(found) > 20)


class Orders(unittest.TestCase):
    def test_both_orders_in_houses(self):
        many = 0
        for book in random_books(114, 200):
            verdict = judge(book)
            if verdict.free:
                continue
            many += 1
            first, second = verdict.first_order(), verdict.second_order()
            self.assertEqual(len(first), verdict.cost + 1)
            self.assertEqual(second, first[-1:] + first[:-1])
            here, alone = House(book), House(book)
            self.assertTrue(all(here.play(first)))
            self.assertTrue(all(alone.play(second)))
            number = verdict.number
            self.assertEqual(first[-1][1].number, number)
            self.assertEqual(number, len(here))
            self.assertEqual((here.stamp_of(number), alone.stamp_of(number)), (verdict.here, verdict.alone))
            self.assertNotEqual(verdict.here, verdict.alone)
            self.assertEqual(verdict.alone, empty_stamp(book, verdict.kind))
            self.assertEqual(verdict.here, stamp(book, verdict.kind, *here.sight_of(number)))
            self.assertEqual(here.sight_of(number)[1], verdict.standings)
            self.assertEqual(alone.sight_of(number), ((), ()))
            letter = first[-1][1]
            self.assertEqual((letter.person, kind_of(book.tests, letter)), ("a", verdict.kind))
            self.assertEqual(here.book, book)
        self.assertTrue(many > 40)

    def test_the_building_events_of_the_order(self):
        for book in random_books(115, 150):
            verdict = judge(book)
            if verdict.free:
                continue
            closure = Closure(book)
            letter = verdict.first_order()[-1][1]
            sender = sender_kind(book.tests, letter.house)
            events, name = sender_events(closure, sender, verdict.standings)
            self.assertEqual(name, letter.sender)
            self.assertEqual(verdict.first_order()[:len(events)], events)
            lot = closure.lot(verdict.view)
            self.assertEqual(len(letter.answers), len(lot))
            house = SlowHouse(book)
            house.play(verdict.first_order()[:-1])
            self.assertEqual(house.view_of(house.joined(letter)), verdict.view.key())
            for answer, view in zip(letter.answers, lot):
                self.assertEqual(house.view_of(house.members(answer)), view.key())


# A sender of many letters, and threads of many persons.
DEEP = "\n".join([
    "mark a", "mark b", "mark c", "standing s", "standing t", "test word x", "test house elm",
    "rule coming mark a if not sender s", "rule coming standing s if thread a",
    "rule coming mark b if sender s, not thread a",
    "rule coming standing t if thread a, thread b", "rule coming mark c if sender t, not thread a, not thread b",
])


class Branches:
    """Told like a closure: a book without tests whose threads branch eight times on each of three levels."""

    book = Book.read("")

    def thread_step(self, view):
        return "letter", (), view, (), ()

    def sender_step(self, sender, standings):
        return ("start",)

    def lot(self, view):
        return [View(rules=[view.rules[0] - 1])] * 8 if view.rules[0] else []


class Persons(unittest.TestCase):
    def test_persons_behind_z(self):
        alphabet = "abcdefghijklmnopqrstuvwxyz"
        names = list(alphabet) + [first + second for first in alphabet for second in alphabet]
        names += ["aa" + sign for sign in alphabet]
        events, last = thread_events(Branches(), View(rules=[3]), number=100)
        self.assertEqual((len(events), last), (585, 684))
        self.assertEqual([event[1].number for event in events], list(range(100, 685)))
        self.assertEqual(events[-1][1].person, "a")
        # Senders start ahead of the letters that theirs answer, so the first letter is that of the fourth person.
        self.assertEqual([event[1].person for event in events[:10]], names[3:11] + ["c"] + names[12:13])
        self.assertEqual({event[1].person for event in events}, set(names[:585]))
        self.assertEqual(names[25:29], ["z", "aa", "ab", "ac"])


class Building(unittest.TestCase):
    def check_letters(self, book, events, number):
        """Whether letters are numbered without gaps, are plain, and persons start in order."""
        letters = [event[1] for event in events if event[0] == "letter"]
        self.assertEqual([letter.number for letter in letters], list(range(number, number + len(letters))))
        persons = {}
        for letter in letters:
            kind = kind_of(book.tests, letter)
            here = letter_of(book.tests, kind, number=letter.number, person=letter.person, answers=letter.answers)
            self.assertEqual(letter, here)
            sender = sender_kind(book.tests, letter.house)
            self.assertEqual(letter.house, house_of(book.tests, sender))
            persons.setdefault(letter.person, letter.house)
            self.assertEqual(persons[letter.person], letter.house)
        for event in events:
            if event[0] == "standing":
                persons.setdefault(person_of(event[1]), event[1].split(" ")[2])
        alphabet = "abcdefghijklmnopqrstuvwxyz"
        names = list(alphabet) + [first + second for first in alphabet for second in alphabet]
        self.assertEqual(set(persons), set(names[:len(persons)]))

    def check_thread(self, closure, view, number=1):
        book = closure.book
        told = thread_events(closure, view, number=number)
        self.assertIsInstance(told, tuple)
        events, last = told
        self.assertIsInstance(events, list)
        self.assertEqual(len(events), closure.thread_cost(view))
        self.check_letters(book, events, number)
        house, slow = House(book), SlowHouse(book)
        self.assertTrue(all(house.play(events)))
        slow.play(events)
        self.assertEqual(slow.view_of(slow.members(last)), view.key())
        self.assertEqual(last, max(house.members_of(last)))
        step = closure.thread_step(view)
        if step[0] == "hand":
            before, _ = thread_events(closure, step[2], number=number)
            self.assertEqual(events, before + [("mark", last, step[1])])
        else:
            before, sender = sender_events(closure, step[3], step[4], number=number)
            self.assertEqual(events[:len(before)], before)
            letter = events[-1][1]
            self.assertEqual((letter.number, letter.sender, letter.person), (last, sender, "a"))
            self.assertEqual(kind_of(book.tests, letter), step[1])
            at = len(before)
            slow = SlowHouse(book)
            slow.play(events[:-1])
            for answer, joined in zip(letter.answers, closure.lot(step[2]), strict=True):
                part = events[at:at + closure.thread_cost(joined)]
                at += len(part)
                self.assertEqual(answer, [event[1].number for event in part if event[0] == "letter"][-1])
                self.assertEqual(slow.view_of(slow.members(answer)), joined.key())
            self.assertEqual(at, len(events) - 1)
        return events

    def check_sender(self, closure, sender, standings, number=1):
        book = closure.book
        told = sender_events(closure, sender, standings, number=number)
        self.assertIsInstance(told, tuple)
        events, name = told
        self.assertEqual(name, f"a at {house_of(book.tests, sender)}")
        self.assertEqual(len(events), closure.sender_cost(sender, standings))
        self.check_letters(book, events, number)
        house = House(book)
        self.assertTrue(all(house.play(events)))
        self.assertEqual(house.standings_of(name), standings)
        return events

    def test_a_hand_mark_on_the_last_built_letter(self):
        book = Book.read("mark a by hand\nmark b by hand")
        events, last = thread_events(Closure(book), View(["a", "b"]), number=7)
        self.assertEqual(last, 7)
        self.assertEqual(events[0], ("letter", letter_of((), (), number=7)))
        self.assertEqual(sorted(events[1:]), [("mark", 7, "a"), ("mark", 7, "b")])

    def test_a_letter_that_joins(self):
        closure = Closure(Book.read(TEXT))
        events, sender = sender_events(closure, (None,), ("v",), number=5)
        tests = closure.book.tests
        self.assertEqual(sender, "a at a")
        self.assertEqual(events, [
            ("letter", letter_of(tests, (True,), number=5, person="b")),
            ("letter", letter_of(tests, (False,), number=6, person="a", answers=(5,))),
        ])
        events, last = thread_events(closure, View(["b"]))
        self.assertEqual(events, [
            ("letter", letter_of(tests, (True,), number=1, person="b")),
            ("letter", letter_of(tests, (False,), number=2, person="a", answers=(1,))),
            ("letter", letter_of(tests, (True,), number=3, person="a")),
        ])
        self.assertEqual(last, 3)

    def test_standings_without_events(self):
        closure = Closure(Book.read("test house elm"))
        self.assertEqual(sender_events(closure, (True,), ()), ([], "a at elm"))
        self.assertEqual(sender_events(closure, (False,), (), number=9), ([], "a at a"))

    def test_building_events_at_random(self):
        for book in random_books(116, 100):
            closure = Closure(book)
            for at, view in enumerate(closure.thread_views()):
                self.check_thread(closure, view, 1 + at * 10)
            for sender in sender_kinds(book.tests):
                for standings in closure.sender_views(sender):
                    self.check_sender(closure, sender, standings, 3)

    def test_the_largest_books(self):
        for text in (LARGEST, DEEP):
            closure = Closure(Book.read(text))
            for view in closure.thread_views():
                self.check_thread(closure, view)

    def test_numbers_from_a_given_one_on(self):
        closure = Closure(Book.read(DEEP))
        view = max(closure.thread_views(), key=closure.thread_cost)
        one, _ = thread_events(closure, view)
        many = sum(event[0] == "letter" for event in one)
        greatest = 10 ** 30
        other, last = thread_events(closure, view, number=greatest - many + 1)
        self.assertEqual(last, greatest)
        self.assertEqual(len(other), len(one))
        self.assertEqual([event[1].sender for event in one], [event[1].sender for event in other])
        self.assertRaises(BadLetter, thread_events, closure, view, number=greatest - many + 2)

    def test_each_use_is_a_copy_of_its_own(self):
        closure = Closure(Book.read(DEEP))
        for view in closure.joined_views():
            for first in closure.lot(view):
                self.assertEqual(self.check_thread(closure, first), self.check_thread(closure, first))

    def test_views_that_are_not_reached(self):
        closure = Closure(Book.read(TEXT))
        view = View(["z"])
        with self.assertRaises(NoView) as caught:
            thread_events(closure, view)
        self.assertIs(caught.exception.view, view)
        for sender, standings in (((None,), ("z",)), ((True,), ())):
            with self.assertRaises(NoView) as caught:
                sender_events(closure, sender, standings)
            self.assertEqual(caught.exception.view, (sender, standings))

    def test_views_that_are_built_apart_occur_together(self):
        rng = random.Random(117)
        for book in random_books(118, 60):
            closure = Closure(book)
            slow = SlowReach(book)
            for _ in range(4):
                view = rng.choice(closure.joined_views())
                sender = rng.choice(sender_kinds(book.tests))
                standings = rng.choice(closure.sender_views(sender))
                kind = rng.choice(kinds_of_sender(book.tests, sender))
                events, name = sender_events(closure, sender, standings)
                answers = []
                for thread in closure.lot(view):
                    number = 1 + sum(event[0] == "letter" for event in events)
                    more, last = thread_events(closure, thread, number=number)
                    events += [renamed(event, number) for event in more]
                    answers.append(last)
                number = 1 + sum(event[0] == "letter" for event in events)
                person, _, house = name.split(" ")
                letter = letter_of(book.tests, kind, number=number, person=person, house=house, answers=answers)
                played = House(book)
                played.play(events)
                played.come(letter)
                pair, key, after = slow.step(view.key(), standings, kind)
                stamped = played.stamp_of(number)
                self.assertEqual((stamped.marks, stamped.standings), pair)
                self.assertEqual(played.standings_of(name), after)


def renamed(event, number):
    """The event with another person for each thread that starts with this number."""
    if event[0] == "letter":
        old = event[1]
        told = {"answers": old.answers, "subject": old.subject, "words": old.words}
        letter = Letter(old.number, suffixed(old.person, number), old.house, **told)
        return "letter", letter
    if event[0] == "standing":
        person, _, house = event[1].split(" ")
        return "standing", f"{suffixed(person, number)} at {house}", event[2]
    return event


def suffixed(person, number):
    return person + "z" + "".join("abcdefghij"[int(digit)] for digit in str(number))


if __name__ == "__main__":
    unittest.main()
