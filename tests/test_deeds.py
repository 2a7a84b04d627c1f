"""Deeds and forged deeds: [94]."""

import unittest

from filedalike.deeds import BadDeed, Deed, forged
from filedalike.letters import Letter


class Anything:
    """Equal to all that it is compared with."""

    def __eq__(self, other):
        return True


MOST = 10 ** 30
MAIL = Letter(5, "ann", "oak")
ACTIONS = (
    ("letter", MAIL), ("mark", 5, "hot"), ("mark", MOST, "not"), ("standing", "ann at oak", "vip"), ("seen", 5, True),
    ("seen", MOST, False), ("rule", 1, None), ("rule", 5, ""), ("rule", 3, "no rule row\nat all"),
)
WRONG_ACTIONS = (
    None, "letter", MAIL, (), ("letter",), ["letter", MAIL], ("letter", 5), ("letter", MAIL, 1), ("Letter", MAIL),
    (MAIL, "letter"), (["letter"], MAIL), ("mark", 0, "hot"), ("mark", MOST + 1, "hot"), ("mark", True, "hot"),
    ("mark", "5", "hot"), ("mark", 5, "Hot"), ("mark", 5, None), ("mark", 5), ("mark", 5, "hot", "hot"),
    ("standing", "ann", "vip"), ("standing", "ann at  oak", "vip"), ("standing", "ann at oak", "VIP"),
    ("standing", 5, "vip"), ("standing", "ann at oak"), ("seen", 5, 1), ("seen", 5, 0), ("seen", 5, None),
    ("seen", False, True), ("seen", 0, True), ("seen", 5), ("seen", 5, True, 1, "d"), ("rule", 0, None),
    ("rule", 6, None), ("rule", True, None), ("rule", "1", None), ("rule", 1, 5), ("rule", 1, b"text"), ("rule", 1),
    ("rule", 1, False), ("rule", 1, "text", None), ("edit", 1, None), ("rule", 1.0, None),
    (Anything(), MAIL), (Anything(), 5, "hot"), (Anything(), 5, True),
)
WRONG_NUMBERS = (0, -1, MOST + 1, True, False, None, "1", 1.0, (1,))
WRONG_NAMES = ("", "Ann", "abcdefghi", "a b", "a1", None, 5, b"ann", ("ann",), True)


class Deeds(unittest.TestCase):
    def test_attributes(self):
        for action in ACTIONS:
            deed = Deed(7, "ann", 3, action)
            self.assertEqual((deed.clock, deed.device, deed.number, deed.action), (7, "ann", 3, action))
            self.assertEqual(deed.place, (7, "ann", 3))
        self.assertEqual(Deed(MOST, "a", MOST, ACTIONS[0]).place, (MOST, "a", MOST))
        self.assertEqual(Deed(1, "abcdefgh", 1, ACTIONS[0]).place, (1, "abcdefgh", 1))

    def check(self, field, *told):
        with self.assertRaises(BadDeed) as caught:
            Deed(*told)
        self.assertEqual(caught.exception.field, field, told)

    def test_wrong_fields(self):
        for value in WRONG_NUMBERS:
            self.check("clock", value, "ann", 3, ACTIONS[0])
            self.check("number", 7, "ann", value, ACTIONS[0])
        for value in WRONG_NAMES:
            self.check("device", 7, value, 3, ACTIONS[0])
        for value in WRONG_ACTIONS:
            self.check("action", 7, "ann", 3, value)

    def test_the_first_wrong_field_is_told(self):
        self.check("clock", 0, "", 0, ())
        self.check("device", 1, "", 0, ())
        self.check("number", 1, "a", 0, ())
        self.check("clock", None, "a", 1, ())
        self.check("device", 1, None, 1, ())

    def test_equal_deeds(self):
        one = Deed(7, "ann", 3, ("letter", MAIL))
        self.assertTrue(one == Deed(7, "ann", 3, ("letter", Letter(5, "ann", "oak"))))
        others = (
            Deed(8, "ann", 3, ("letter", MAIL)), Deed(7, "bob", 3, ("letter", MAIL)),
            Deed(7, "ann", 4, ("letter", MAIL)),
            Deed(7, "ann", 3, ("letter", Letter(5, "ann", "elm"))), Deed(7, "ann", 3, ("mark", 5, "hot")),
        )
        for other in others + (None, (7, "ann", 3), "deed"):
            self.assertFalse(one == other)
            self.assertTrue(one != other)
        self.assertFalse(Deed(1, "a", 1, ("seen", 5, True)) == Deed(1, "a", 1, ("seen", 5, False)))
        self.assertFalse(Deed(1, "a", 1, ("rule", 5, None)) == Deed(1, "a", 1, ("rule", 5, "")))


class ForgedDeeds(unittest.TestCase):
    def test_lists_without_forged_deeds(self):
        one, other = Deed(1, "a", 1, ACTIONS[0]), Deed(1, "b", 1, ACTIONS[1])
        again, next_one = Deed(1, "a", 1, ACTIONS[0]), Deed(1, "a", 2, ACTIONS[1])
        for deeds in ([], [one], [one, other], [one, one, again], [next_one, one]):
            self.assertIsNone(forged(deeds))

    def test_another_clock_or_action(self):
        one = Deed(1, "a", 1, ACTIONS[0])
        self.assertEqual(forged([one, Deed(2, "a", 1, ACTIONS[0])]), ("a", 1))
        self.assertEqual(forged([one, Deed(1, "a", 1, ACTIONS[1])]), ("a", 1))

    def test_the_least_pair(self):
        pairs = (("b", 2), ("a", 12), ("a", 9))
        deeds = [Deed(clock, name, number, ACTIONS[1]) for clock in (1, 2) for name, number in pairs]
        self.assertEqual(forged(deeds), ("a", 9))
        self.assertEqual(forged(deeds[::-1]), ("a", 9))
        self.assertEqual(forged([deed for deed in deeds if deed.device == "b"]), ("b", 2))
        self.assertEqual(forged(deeds[:3] + [deeds[0], deeds[4]]), ("a", 12))

    def test_equal_deeds_between_unequal_ones(self):
        one, other = Deed(1, "a", 1, ACTIONS[0]), Deed(1, "a", 1, ACTIONS[1])
        self.assertEqual(forged([one, one, other]), ("a", 1))
        self.assertEqual(forged([other, one, one]), ("a", 1))


if __name__ == "__main__":
    unittest.main()
