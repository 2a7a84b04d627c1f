"""Devices and the plain meaning of deeds: [94], [97] to [99]."""

import random
import unittest
from itertools import permutations

from filedalike.book import Book
from filedalike.deeds import Deed
from filedalike.devices import Device, Forged, WrongDeed, meaning
from filedalike.errors import Clash
from filedalike.folding import NotFree
from filedalike.had import Had
from filedalike.house import House, NotByHand
from filedalike.letters import Letter
from filedalike.rules import BadBook
from filedalike.strata import RingThroughLacks
from tests.devicemodel import plain_meaning, random_action, random_deeds, random_free_book

GROUND = "mark a\nmark b by hand\nstanding s\nstanding u by hand\ntest word x"
FREE = "rule coming mark a if test 1"
BINDING = "rule coming mark a if not thread b"
RINGED = "rule always mark a if not thread a"


def book_of(*rows):
    return Book.read("\n".join((GROUND,) + rows))


def mail(number, *answers, words=(), person="ann"):
    return Letter(number, person, "oak", answers=answers, words=words)


class Meanings(unittest.TestCase):
    def test_no_deeds(self):
        book = book_of(FREE)
        self.assertEqual(meaning(book, []), (book.written(), (), (), ((), (), ())))

    def test_books_that_are_refused(self):
        for function in (lambda book: meaning(book, []), lambda book: Device("ann", book)):
            with self.assertRaises(RingThroughLacks) as caught:
                function(book_of(BINDING, RINGED))
            self.assertEqual(caught.exception.ring, ((2, "a", "a"),))
            with self.assertRaises(NotFree) as caught:
                function(book_of(BINDING))
            self.assertEqual(caught.exception.kind, (False,))

    def test_all_that_deeds_mean(self):
        first, other = mail(5, words=["x"]), mail(5)
        deeds = [
            Deed(9, "a", 1, ("letter", other)), Deed(3, "b", 1, ("letter", first)), Deed(4, "b", 2, ("mark", 7, "b")),
            Deed(9, "b", 3, ("letter", first)), Deed(2, "a", 2, ("standing", "ann at oak", "u")),
            Deed(7, "a", 3, ("seen", 5, True)), Deed(6, "c", 1, ("seen", 5, False)),
            Deed(8, "a", 4, ("rule", 2, BINDING)), Deed(9, "a", 5, ("rule", 3, RINGED)),
            Deed(10, "a", 6, ("rule", 4, "rule coming standing s if test 1")), Deed(8, "c", 2, ("letter", other)),
        ]
        told = meaning(book_of(FREE), deeds)
        self.assertEqual(told[0], book_of(FREE, "rule coming standing s if test 1").written())
        self.assertEqual(told[1], (((8, "a", 4), "bound"), ((9, "a", 5), "ring")))
        self.assertEqual(told[2], ((8, "c", 2), (9, "a", 1)))
        # The last book holds from the beginning, so the letter has its standing.
        self.assertEqual(told[3], (
            ((5, first.written(), (("a",), ("s",)), (), ("a",), None, 5, (7, "a", True)),),
            (("ann at oak", ("u",), ("s", "u")),), ((7, ("b",), None),),
        ))
        self.assertIsInstance(told, tuple)
        self.assertEqual(meaning(book_of(FREE), deeds[::-1] + deeds[2:5]), told)

    def test_words_of_one_clock(self):
        one, other = Deed(7, "a", 1, ("seen", 5, True)), Deed(7, "b", 1, ("seen", 5, False))
        self.assertEqual(meaning(book_of(), [one, other])[3][2], ((5, (), (7, "b", False)),))

    def test_at_random(self):
        rng = random.Random(121)
        shadowed = passed = 0
        for _ in range(80):
            book, *ground = random_free_book(rng)
            deeds = random_deeds(rng, book, ground, rng.randint(0, 14))
            told = plain_meaning(book, deeds)
            shadowed += bool(told[2])
            passed += bool(told[1])
            given = deeds + deeds[:3]
            rng.shuffle(given)
            before = list(given)
            self.assertEqual(meaning(book, given), told)
            self.assertEqual(given, before)
        self.assertTrue(min(shadowed, passed) > 10)


class Making(unittest.TestCase):
    def test_a_new_device(self):
        book = book_of(FREE)
        device = Device("ann", book)
        self.assertEqual((device.name, device.first_book, device.book), ("ann", book, book))
        self.assertEqual((device.passed, device.shadowed, device.deeds()), ((), (), []))
        self.assertEqual(device.held(), Had())
        self.assertEqual(device.summary(), meaning(book, []))

    def test_clocks_and_numbers(self):
        device = Device("ann", book_of())
        self.assertEqual(device.come(mail(5)), Deed(1, "ann", 1, ("letter", mail(5))))
        self.assertEqual(device.put(5, "b"), Deed(2, "ann", 2, ("mark", 5, "b")))
        device.receive([Deed(40, "bob", 90, ("seen", 5, True)), Deed(7, "ann", 6, ("seen", 5, False))])
        # The clock is behind the greatest one of all, the number behind the greatest own one.
        self.assertEqual(device.see(5, True), Deed(41, "ann", 7, ("seen", 5, True)))
        self.assertEqual(device.give("ann at oak", "u"), Deed(42, "ann", 8, ("standing", "ann at oak", "u")))
        self.assertEqual(device.edit(5, None), Deed(43, "ann", 9, ("rule", 5, None)))
        self.assertEqual([deed.clock for deed in device.deeds()], [1, 2, 7, 40, 41, 42, 43])

    def test_a_letter_that_is_there(self):
        device = Device("ann", book_of())
        device.come(mail(5))
        self.assertIsNone(device.come(mail(5)))
        with self.assertRaises(Clash) as caught:
            device.come(mail(5, 6))
        self.assertEqual(caught.exception.number, 5)
        self.assertEqual(len(device.deeds()), 1)

    def test_a_letter_that_is_shadowed(self):
        device = Device("ann", book_of())
        device.come(mail(5))
        other = mail(5, 6)
        self.assertEqual(device.receive([Deed(1, "a", 1, ("letter", other))]), 1)
        self.assertEqual(device.shadowed, ((1, "ann", 1),))
        # Now the other one is valid.
        self.assertIsNone(device.come(other))
        with self.assertRaises(Clash):
            device.come(mail(5))
        self.assertEqual([letter.answers for letter in device.new_house()], [(6,)])

    def test_hands(self):
        device = Device("ann", book_of())
        for call, name in (
            (lambda: device.put(5, "a"), "a"), (lambda: device.put(5, "c"), "c"), (lambda: device.put(5, None), None),
            (lambda: device.give("ann at oak", "s"), "s"), (lambda: device.give("ann at oak", "b"), "b"),
        ):
            with self.assertRaises(NotByHand) as caught:
                call()
            self.assertEqual(caught.exception.name, name)
        self.assertEqual(device.deeds(), [])
        self.assertIsNotNone(device.put(5, "b"))
        self.assertIsNotNone(device.give("ann at oak", "u"))
        self.assertIsNone(device.put(5, "b"))
        self.assertIsNone(device.give("ann at oak", "u"))
        self.assertIsNotNone(device.put(6, "b"))
        self.assertIsNotNone(device.give("bob at oak", "u"))
        device.receive([Deed(1, "bob", 1, ("mark", 9, "b")), Deed(1, "bob", 2, ("standing", "x at y", "u"))])
        # Deeds of other devices count, too.
        self.assertIsNone(device.put(9, "b"))
        self.assertIsNone(device.give("x at y", "u"))
        self.assertEqual(len(device.deeds()), 6)

    def test_words_and_edits_are_deeds_though_they_change_nothing(self):
        device = Device("ann", book_of(FREE))
        for clock in (1, 2):
            self.assertEqual(device.see(5, True).place, (clock, "ann", clock))
        for clock in (3, 4):
            self.assertEqual(device.edit(1, FREE).place, (clock, "ann", clock))
        self.assertEqual(device.edit(4, None).action, ("rule", 4, None))
        self.assertEqual(device.book, book_of(FREE))

    def test_edits(self):
        device = Device("ann", book_of(FREE))
        first = device.edit(2, "rule coming standing s")
        self.assertEqual(device.book, book_of(FREE, "rule coming standing s"))
        self.assertEqual(device.first_book, book_of(FREE))
        before = device.summary()
        with self.assertRaises(BadBook) as caught:
            device.edit(1, "rule coming mark z")
        self.assertEqual(caught.exception.row, 1)
        with self.assertRaises(RingThroughLacks) as caught:
            device.edit(1, RINGED)
        self.assertEqual(caught.exception.ring, ((1, "a", "a"),))
        with self.assertRaises(RingThroughLacks) as caught:
            device.edit(5, RINGED)
        self.assertEqual(caught.exception.ring, ((3, "a", "a"),))
        with self.assertRaises(NotFree) as caught:
            device.edit(3, BINDING)
        self.assertEqual(caught.exception.kind, (False,))
        self.assertEqual((device.deeds(), device.summary()), ([first], before))
        device.edit(2, None)
        self.assertEqual(device.book, book_of(FREE))

    def test_an_edit_changes_the_letters_that_came(self):
        device = Device("ann", book_of(FREE))
        device.come(mail(5, words=["x"]))
        device.edit(1, None)
        self.assertEqual(device.new_house().stamp_of(5).written(), "nothing")
        device.edit(2, "rule coming standing s if test 1")
        self.assertEqual(device.new_house().standings_of("ann at oak"), ("s",))


class Parcels(unittest.TestCase):
    def filled(self):
        device = Device("ann", book_of(FREE))
        device.come(mail(5))
        device.put(5, "b")
        device.see(5, True)
        return device

    def test_what_is_new_counts(self):
        device, other = self.filled(), Device("bob", book_of(FREE))
        deeds = device.deeds()
        self.assertEqual(other.receive(deeds[:1] + deeds), 3)
        self.assertEqual(other.receive(deeds[::-1]), 0)
        self.assertEqual(other.receive([]), 0)
        self.assertEqual((other.deeds(), other.summary()), (deeds, device.summary()))
        twice = Deed(9, "cob", 1, ("seen", 7, True))
        self.assertEqual(device.receive([twice, deeds[0], Deed(9, "cob", 1, ("seen", 7, True))]), 1)

    def check_refused(self, device, deeds, made, *told):
        before = device.deeds(), device.summary(), device.book, device.passed, device.shadowed
        with self.assertRaises(made) as caught:
            device.receive(deeds)
        names = ("index",) if made == WrongDeed else ("device", "number")
        self.assertEqual(tuple(getattr(caught.exception, name) for name in names), told)
        after = device.deeds(), device.summary(), device.book, device.passed, device.shadowed
        self.assertEqual(after, before)

    def test_wrong_deeds(self):
        device = self.filled()
        right = Deed(1, "bob", 1, ("letter", mail(9)))
        wrong = (
            ("mark", 5, "a"), ("mark", 5, "z"), ("standing", "ann at oak", "s"), ("standing", "ann at oak", "b"),
            ("rule", 1, "mark z"), ("rule", 1, ""), ("rule", 1, "rule coming mark a if test 2"),
        )
        for action in wrong:
            self.check_refused(device, [right, Deed(2, "bob", 2, action), Deed(2, "bob", 3, action)], WrongDeed, 1)
        # An edit that will be passed over is right.
        for text in (None, RINGED, BINDING):
            self.assertEqual(self.filled().receive([Deed(2, "bob", 2, ("rule", 1, text))]), 1)

    def test_deeds_that_are_right_for_the_first_book(self):
        device = self.filled()
        device.edit(1, None)
        self.assertEqual(device.receive([Deed(1, "bob", 1, ("rule", 5, FREE))]), 1)

    def test_forged_deeds(self):
        device = self.filled()
        other, third = Deed(1, "ann", 1, ("letter", mail(9))), Deed(7, "ann", 3, ("seen", 5, True))
        self.check_refused(device, [third, other], Forged, "ann", 1)
        self.check_refused(device, [third], Forged, "ann", 3)
        new = [Deed(1, "bob", 9, ("seen", 5, True)), Deed(1, "bob", 9, ("seen", 5, False))]
        self.check_refused(device, new + [third], Forged, "ann", 3)
        self.check_refused(device, new, Forged, "bob", 9)
        # What is wrong is told ahead of what is forged.
        self.check_refused(device, [third, Deed(1, "bob", 1, ("mark", 5, "a"))], WrongDeed, 1)

    def test_parcels_that_are_made(self):
        device = self.filled()
        device.receive([Deed(2, "a", 7, ("seen", 6, True)), Deed(30, "b", 1, ("seen", 6, True))])
        deeds = device.deeds()
        self.assertEqual([deed.place for deed in deeds], sorted(deed.place for deed in deeds))
        self.assertEqual(device.parcel(Had()), deeds)
        self.assertEqual(device.parcel(device.held()), [])
        had = Had([("ann", 1), ("b", 2), ("a", 7)])
        rest = [deed for deed in deeds if (deed.device, deed.number) not in had]
        self.assertEqual(device.parcel(had), rest)
        self.assertEqual(device.parcel(had, most=None), rest)
        for most in range(5):
            self.assertEqual(device.parcel(had, most=most), rest[:most])
        self.assertEqual(device.held(), Had([("ann", 1), ("ann", 2), ("ann", 3), ("a", 7), ("b", 1)]))

    def test_lists_are_new(self):
        device = self.filled()
        for ask in (device.deeds, lambda: device.parcel(Had())):
            ask().clear()
            self.assertEqual(len(ask()), 3)

    def test_parcels_stay_as_they_are(self):
        device, other = self.filled(), Device("bob", book_of(FREE))
        deeds = device.deeds()[::-1]
        before = list(deeds)
        other.receive(deeds)
        self.assertEqual(deeds, before)


class Houses(unittest.TestCase):
    def test_new_houses(self):
        device = Device("ann", book_of(FREE))
        device.come(mail(5, words=["x"]))
        device.see(5, True)
        device.edit(2, "rule always mark b if thread a")
        house = device.new_house()
        self.assertIsInstance(house, House)
        self.assertEqual((house.summary(), house.book), (device.summary()[3], device.book))
        before = device.summary()
        house.come(mail(6, 5))
        house.put(5, "b")
        house.edit(book_of())
        self.assertEqual(device.summary(), before)
        self.assertEqual(device.new_house().summary(), before[3])
        self.assertEqual(device.book, book_of(FREE, "rule always mark b if thread a"))


    def test_deeds_of_new_houses_in_any_order(self):
        rng = random.Random(124)
        for _ in range(40):
            book, *ground = random_free_book(rng)
            device = Device("a", book)
            device.receive(random_deeds(rng, book, ground, 12))
            house = device.new_house()
            deeds = house.deeds()
            rng.shuffle(deeds)
            other = House(device.book)
            other.play(deeds)
            self.assertEqual(other.summary(), device.summary()[3])
            self.assertEqual(other.deeds(), house.deeds())


class AtRandom(unittest.TestCase):
    def test_parcels_in_any_order(self):
        rng = random.Random(122)
        for _ in range(40):
            book, *ground = random_free_book(rng)
            deeds = random_deeds(rng, book, ground, rng.randint(0, 12))
            told = plain_meaning(book, deeds)
            for _ in range(2):
                device, given = Device("a", book), list(deeds)
                rng.shuffle(given)
                while given:
                    many = rng.randint(1, 4)
                    device.receive(given[:many] + rng.sample(deeds, min(2, len(deeds))))
                    given = given[many:]
                    self.check(device, book, device.deeds())
                self.assertEqual(device.summary(), told)
                self.assertEqual(device.held(), Had([(deed.device, deed.number) for deed in deeds]))

    def check(self, device, book, deeds):
        told = plain_meaning(book, deeds)
        self.assertEqual((device.book.written(), device.passed, device.shadowed), told[:3])
        self.assertEqual(device.summary(), told)

    def test_deeds_that_are_made_on_devices(self):
        rng = random.Random(123)
        refused = made = 0
        for _ in range(40):
            book, *ground = random_free_book(rng)
            devices = [Device(name, book) for name in ("a", "b")]
            for _ in range(rng.randint(1, 12)):
                device = rng.choice(devices)
                word, *parts = random_action(rng, book, ground)
                call = {"letter": device.come, "mark": device.put, "standing": device.give, "seen": device.see}
                before = device.deeds()
                try:
                    deed = call.get(word, device.edit)(*parts)
                except (Clash, NotFree, RingThroughLacks):
                    refused += 1
                    self.assertEqual(device.deeds(), before)
                else:
                    made += deed is not None
                    self.assertEqual(device.deeds(), before + ([deed] if deed else []))
                    self.assertEqual(device.passed, plain_meaning(book, device.deeds())[1])
                if rng.random() < 0.2:
                    devices[0].receive(devices[1].parcel(devices[0].held(), most=rng.choice([None, 1, 2])))
            for device in devices:
                self.check(device, book, device.deeds())
        self.assertTrue(min(refused, made) > 20)

    def test_all_orders_of_few_deeds(self):
        deeds = [
            Deed(1, "a", 1, ("letter", mail(5))), Deed(2, "b", 1, ("letter", mail(5, 6))),
            Deed(2, "a", 2, ("rule", 1, "rule coming mark a if sender s")),
            Deed(1, "c", 1, ("rule", 2, "rule coming standing s")), Deed(3, "c", 2, ("rule", 2, None)),
        ]
        told = plain_meaning(book_of(FREE), deeds)
        self.assertEqual((len(told[1]), len(told[2])), (1, 1))
        for order in permutations(deeds):
            device = Device("z", book_of(FREE))
            for deed in order:
                device.receive([deed])
            self.assertEqual(device.summary(), told)


if __name__ == "__main__":
    unittest.main()
