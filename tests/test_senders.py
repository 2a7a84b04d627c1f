"""Senders and their standings: [1], [53]."""

import random
import unittest
from itertools import product

from filedalike.senders import Senders, is_sender


class IsSender(unittest.TestCase):
    def test_senders(self):
        for text in ("ann at oak", "a at b", "at at at", "abcdefgh at stuvwxyz"):
            self.assertIs(is_sender(text), True, text)

    def test_other_strings(self):
        for text in (
            "", "ann", "ann at", "ann at ", " at oak", "ann  at oak", "ann at  oak", "ann at oak ", " ann at oak",
            "ann at oak\n", "ann in oak", "Ann at oak", "ann at Oak", "abcdefghi at oak", "ann at abcdefghi",
            "ann AT oak",
            "ann at oak at elm", "ann1 at oak", "ann\tat\toak", "a-b at oak", "at", "at at", "ann at oak at",
        ):
            self.assertIs(is_sender(text), False, text)

    def test_other_things(self):
        for thing in (None, 3, True, b"ann at oak", ("ann", "at", "oak"), ["ann at oak"], {}, object(), 1.5):
            self.assertIs(is_sender(thing), False)


class Standings(unittest.TestCase):
    def setUp(self):
        self.senders = Senders(["v", "u"])

    def test_an_empty_table(self):
        self.assertEqual(self.senders.standings_of("ann at oak"), ())
        self.assertEqual(self.senders.by_hand("ann at oak"), ())
        self.assertEqual(self.senders.names(), [])
        self.assertEqual(len(self.senders), 0)
        self.assertIs("ann at oak" in self.senders, False)

    def test_book_order(self):
        self.assertIs(self.senders.give("a at b", "u"), True)
        self.assertIs(self.senders.give("a at b", "v", by_hand=True), True)
        self.assertEqual(self.senders.standings_of("a at b"), ("v", "u"))
        self.assertEqual(self.senders.by_hand("a at b"), ("v",))
        self.senders.give("a at b", "u", by_hand=True)
        self.assertEqual(self.senders.by_hand("a at b"), ("v", "u"))

    def test_one_standing_in_both_ways(self):
        for _ in range(2):
            first = [self.senders.give("a at b", "u"), self.senders.give("a at b", "u", by_hand=True)]
            self.assertEqual(self.senders.standings_of("a at b"), ("u",))
            self.assertEqual(self.senders.by_hand("a at b"), ("u",))
        self.assertEqual(first, [False, False])
        other = Senders(("v", "u"))
        self.assertIs(other.give("a at b", "u", by_hand=True), True)
        self.assertIs(other.give("a at b", "u", by_hand=False), True)
        self.assertEqual([other.give("a at b", "u", by_hand=True), other.give("a at b", "u")], [False, False])

    def test_what_stamps_give_is_not_by_hand(self):
        self.senders.give("a at b", "u")
        self.assertEqual(self.senders.by_hand("a at b"), ())
        self.assertIs("a at b" in self.senders, True)

    def test_names(self):
        for sender in ("b at a", "a at c", "a at b", "a at c"):
            self.senders.give(sender, "u")
        self.senders.give("a at a", "v", by_hand=True)
        self.senders.give("b at a", "v", by_hand=True)
        self.assertEqual(self.senders.names(), ["a at a", "a at b", "a at c", "b at a"])
        self.assertEqual(len(self.senders), 4)
        self.assertIs("a at a" in self.senders, True)
        self.assertIs("c at a" in self.senders, False)
        self.senders.names().append("x at x")
        self.assertEqual(len(self.senders.names()), 4)

    def test_standings_are_copied(self):
        standings = ["v", "u"]
        senders = Senders(standings)
        standings.clear()
        senders.give("a at b", "u")
        self.assertEqual(senders.standings_of("a at b"), ("u",))

    def test_no_standings(self):
        self.assertEqual(Senders(()).standings_of("a at b"), ())

    def test_the_order_does_not_matter(self):
        rng = random.Random(51)
        gifts = list(product(["a at b", "b at a"], ["u", "v"], [True, False]))
        for _ in range(50):
            part = [gift for gift in gifts if rng.random() < 0.5]
            rows = []
            for _ in range(3):
                rng.shuffle(part)
                senders = Senders(["v", "u"])
                for sender, standing, by_hand in part:
                    self.assertIs(senders.give(sender, standing, by_hand=by_hand), True)
                names = senders.names()
                rows.append((names, [(senders.standings_of(each), senders.by_hand(each)) for each in names]))
            self.assertEqual(rows[0], rows[1])
            self.assertEqual(rows[0], rows[2])
            self.assertEqual(rows[0][0], sorted({sender for sender, _, _ in part}))


if __name__ == "__main__":
    unittest.main()
