"""Meetings and routes: [100], [101]."""

import random
import unittest

from filedalike.book import Book
from filedalike.deeds import Deed
from filedalike.devices import Device, Forged
from filedalike.letters import Letter
from filedalike.meetings import Strangers, meet, routes
from tests.devicemodel import plain_meaning, random_action, random_free_book

GROUND = "mark b by hand\nmark a\ntest word x"
BOOK = Book.read(GROUND + "\nrule coming mark a if test 1")


def filled(name, many, book=BOOK):
    """A device with deeds of its own."""
    device = Device(name, book)
    for number in range(1, many + 1):
        device.put(number, "b")
    return device


def places_of(device):
    return [deed.place for deed in device.deeds()]


class Meetings(unittest.TestCase):
    def test_each_gets_what_it_lacks(self):
        one, other = filled("ann", 3), filled("bob", 2)
        other.see(7, True)
        self.assertEqual(meet(one, other), (3, 3))
        self.assertEqual(places_of(one), places_of(other))
        self.assertEqual(len(one.deeds()), 6)
        self.assertEqual(one.summary(), other.summary())
        self.assertEqual(meet(one, other), (0, 0))
        self.assertIsInstance(meet(one, other), tuple)

    def test_how_many_each_got(self):
        one, other = filled("ann", 3), filled("bob", 1)
        self.assertEqual(meet(one, other), (1, 3))
        one.see(9, True)
        self.assertEqual(meet(other, one), (1, 0))
        self.assertEqual(meet(filled("x", 0), filled("y", 0)), (0, 0))

    def test_bounds(self):
        one, other = filled("ann", 3), filled("bob", 2)
        before = places_of(one), places_of(other)
        self.assertEqual(meet(one, other, most=0), (0, 0))
        self.assertEqual((places_of(one), places_of(other)), before)
        self.assertEqual(meet(one, other, most=1), (1, 1))
        # Those of the least places.
        self.assertEqual(places_of(one), sorted(before[0] + before[1][:1]))
        self.assertEqual(places_of(other), sorted(before[1] + before[0][:1]))
        self.assertEqual(meet(one, other, most=5), (1, 2))
        self.assertEqual(places_of(one), places_of(other))
        self.assertEqual(meet(filled("ann", 3), filled("bob", 2), most=None), (2, 3))

    def test_both_parcels_are_made_before_either_is_received(self):
        one, other = filled("ann", 2), filled("bob", 2)
        own = places_of(one), places_of(other)
        # If one received first, the least places that the other lacks would be the same; with a third's deeds not.
        third = Deed(1, "a", 1, ("mark", 9, "b"))
        other.receive([third])
        self.assertEqual(meet(one, other, most=1), (1, 1))
        self.assertEqual(places_of(one), [third.place] + own[0])
        self.assertEqual(places_of(other), sorted([third.place, own[0][0]] + own[1]))

    def check_refused(self, one, other, made, name, value):
        before = one.deeds(), other.deeds(), one.summary(), other.summary()
        for most in (None, 0, 1):
            with self.assertRaises(made) as caught:
                meet(one, other, most=most)
            self.assertEqual(getattr(caught.exception, name), value)
        self.assertEqual((one.deeds(), other.deeds(), one.summary(), other.summary()), before)

    def test_strangers(self):
        self.check_refused(filled("ann", 2), filled("ann", 1), Strangers, "pair", ("ann", "ann"))
        device = filled("ann", 2)
        self.check_refused(device, device, Strangers, "pair", ("ann", "ann"))
        other = filled("bob", 1, Book.read(GROUND))
        self.check_refused(device, other, Strangers, "pair", ("ann", "bob"))
        self.check_refused(other, device, Strangers, "pair", ("bob", "ann"))

    def test_first_books_count_alone(self):
        one, other = filled("ann", 1), filled("bob", 1)
        one.edit(1, None)
        self.assertEqual(meet(one, other), (1, 2))
        self.assertEqual(other.book, Book.read(GROUND))
        # Now the books are equal, but the first books are not.
        self.check_refused(one, filled("cob", 1, Book.read(GROUND)), Strangers, "pair", ("ann", "cob"))
        self.assertEqual(meet(filled("ann", 1), filled("bob", 1, Book.read(BOOK.written()))), (1, 1))

    def test_forged_deeds(self):
        one, other = filled("ann", 1), filled("bob", 1)
        for name, number in (("z", 3), ("b", 12), ("b", 9)):
            one.receive([Deed(5, name, number, ("seen", 7, True))])
            other.receive([Deed(5, name, number, ("seen", 7, False))])
        one.receive([Deed(5, "a", 1, ("seen", 7, True))])
        other.receive([Deed(5, "a", 1, ("seen", 7, True))])
        with self.assertRaises(Forged) as caught:
            meet(one, other)
        self.assertEqual((caught.exception.device, caught.exception.number), ("b", 9))
        self.check_refused(one, other, Forged, "number", 9)
        # Strangers are told ahead of what is forged.
        twin = filled("ann", 0)
        twin.see(5, True)
        self.check_refused(one, twin, Strangers, "pair", ("ann", "ann"))


def slow_routes(names, meetings):
    """Each route by the words of the document, asked from the end."""
    def knows(one, other, before):
        """Whether one knows of another name before a meeting."""
        return one == other or any(
            one in pair and knows(partner(pair, one), other, at) for at, pair in enumerate(meetings[:before])
        )

    def partner(pair, name):
        return pair[1] if pair[0] == name else pair[0]

    def route(start, end, before):
        if start == end:
            return ()
        for at, pair in enumerate(meetings[:before]):
            if end in pair and knows(partner(pair, end), start, at):
                return route(start, partner(pair, end), at) + (at,)
        return None

    found = {(start, end): route(start, end, len(meetings)) for start in names for end in names}
    return {pair: told for pair, told in found.items() if told is not None}


class Routes(unittest.TestCase):
    def test_no_meetings(self):
        self.assertEqual(routes([], []), {})
        self.assertEqual(routes(["b", "a"], []), {("a", "a"): (), ("b", "b"): ()})

    def test_what_was_known_just_before(self):
        found = routes(["a", "b", "c"], [("a", "b"), ("b", "c"), ("a", "c"), ("b", "a")])
        self.assertEqual(found, {
            ("a", "a"): (), ("b", "b"): (), ("c", "c"): (), ("a", "b"): (0,), ("b", "a"): (0,), ("b", "c"): (1,),
            ("c", "b"): (1,), ("a", "c"): (0, 1), ("c", "a"): (2,),
        })
        self.assertNotIn(("c", "a"), routes(["a", "b", "c"], [("a", "b"), ("b", "c")]))

    def test_the_first_meeting_counts(self):
        found = routes(["a", "b"], [("b", "a"), ("a", "b")])
        self.assertEqual((found["a", "b"], found["b", "a"]), ((0,), (0,)))

    def test_the_route_is_the_one_at_that_time(self):
        # b knows of a by c only, though it meets a later.
        meetings = [("a", "c"), ("c", "b"), ("a", "b")]
        self.assertEqual(routes(["a", "b", "c"], meetings)["a", "b"], (0, 1))

    def test_arguments_stay_as_they_are(self):
        names, meetings = ["b", "a"], [("a", "b")]
        routes(names, meetings)
        self.assertEqual((names, meetings), (["b", "a"], [("a", "b")]))

    def random_meetings(self, rng, names):
        return [tuple(rng.sample(names, 2)) for _ in range(rng.randint(0, 8))] if len(names) > 1 else []

    def test_at_random(self):
        rng = random.Random(191)
        for _ in range(200):
            names = rng.sample(["a", "b", "c", "d", "e"], rng.randint(1, 5))
            meetings = self.random_meetings(rng, names)
            self.assertEqual(routes(names, meetings), slow_routes(names, meetings))

    def test_deeds_spread_along_routes(self):
        rng = random.Random(192)
        for _ in range(60):
            names = ["a", "b", "c", "d"][:rng.randint(2, 4)]
            devices = {name: filled(name, rng.randint(1, 2)) for name in names}
            meetings = self.random_meetings(rng, names)
            most = rng.choice([None, None, 1, 2])
            for one, other in meetings:
                meet(devices[one], devices[other], most=most)
            found = routes(names, meetings)
            for start in names:
                for end in names:
                    has_all = {(start, 1)} <= {(deed.device, deed.number) for deed in devices[end].deeds()}
                    if most is None:
                        self.assertIs(has_all, (start, end) in found)
                    elif has_all:
                        self.assertIn((start, end), found)

    def test_meetings_of_devices_at_random(self):
        rng = random.Random(193)
        for _ in range(25):
            book, *ground = random_free_book(rng)
            devices = [Device(name, book) for name in ("a", "b", "c")]
            for _ in range(8):
                device = rng.choice(devices)
                word, *parts = random_action(rng, book, ground, edits=False)
                if word == "letter":
                    # Each device has numbers of its own, some of which two have.
                    parts = [Letter(rng.randint(1, 9), device.name, "oak")]
                call = {"letter": device.come, "mark": device.put, "standing": device.give, "seen": device.see}
                try:
                    call[word](*parts)
                except ValueError:
                    pass
                meet(*rng.sample(devices, 2), most=rng.choice([None, 1]))
            for _ in range(2):
                for one, other in (devices[:2], devices[1:], devices[::2]):
                    meet(one, other)
            told = plain_meaning(book, devices[0].deeds())
            for device in devices:
                self.assertEqual(device.deeds(), devices[0].deeds())
                self.assertEqual(device.summary(), told)


if __name__ == "__main__":
    unittest.main()
