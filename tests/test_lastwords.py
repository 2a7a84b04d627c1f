"""Words and last words: [54]."""

import random
import unittest

from filedalike.lastwords import LastWords


class Words(unittest.TestCase):
    def test_no_words(self):
        words = LastWords()
        self.assertIsNone(words.last(3))
        self.assertIs(words.seen(3), False)
        self.assertEqual(words.numbers(), [])

    def test_the_greatest_word_is_the_last(self):
        words = LastWords()
        told = [
            ((3, True, 5, "d"), True, (5, "d", True)), ((3, False, 4, "z"), False, (5, "d", True)),
            ((3, False, 5, "c"), False, (5, "d", True)), ((3, False, 5, "d"), False, (5, "d", True)),
            ((3, False, 5, "da"), True, (5, "da", False)), ((3, True, 5, "da"), True, (5, "da", True)),
            ((3, True, 5, "da"), False, (5, "da", True)), ((3, False, 6, "a"), True, (6, "a", False)),
        ]
        for (number, seen, count, device), changed, last in told:
            self.assertIs(words.say(number, seen, count=count, device=device), changed)
            self.assertEqual(words.last(3), last)
            self.assertIs(words.seen(3), last[2])

    def test_great_counts_and_count_zero(self):
        words = LastWords((1, False, 0, "a"))
        self.assertEqual(words.last(1), (0, "a", False))
        self.assertIs(words.say(1, True, count=10 ** 30, device="a"), True)
        self.assertIs(words.say(1, False, count=10 ** 30 - 1, device="z"), False)
        self.assertEqual(words.last(1), (10 ** 30, "a", True))

    def test_devices_are_ordered_as_strings(self):
        self.assertEqual(LastWords((1, True, 2, "b"), (1, False, 2, "ab")).last(1), (2, "b", True))
        self.assertEqual(LastWords((1, True, 2, "a"), (1, False, 2, "ab")).last(1), (2, "ab", False))

    def test_numbers_are_apart(self):
        words = LastWords((9, True, 2, "b"), (1, False, 2, "ab"), (9, True, 1, "b"))
        self.assertEqual(words.numbers(), [1, 9])
        self.assertIs(words.seen(9), True)
        self.assertIs(words.seen(1), False)
        self.assertIs(words.seen(2), False)
        words.numbers().append(3)
        self.assertEqual(words.numbers(), [1, 9])

    def test_unions(self):
        first = LastWords((1, True, 2, "b"), (2, True, 2, "b"))
        second = LastWords((1, False, 3, "a"), (4, True, 0, "a"))
        both = first | second
        self.assertIsInstance(both, LastWords)
        self.assertEqual([both.last(number) for number in (1, 2, 4)], [(3, "a", False), (2, "b", True), (0, "a", True)])
        self.assertEqual(both, second | first)
        self.assertEqual((first.numbers(), second.numbers()), ([1, 2], [1, 4]))
        self.assertEqual(first.last(1), (2, "b", True))
        both.say(1, True, count=9, device="z")
        self.assertEqual((first.last(1), second.last(1)), ((2, "b", True), (3, "a", False)))
        self.assertEqual(LastWords() | LastWords(), LastWords())

    def test_equality(self):
        words = LastWords((1, True, 2, "b"))
        self.assertIs(words == LastWords((1, False, 2, "b"), (1, True, 2, "b"), (1, True, 1, "z")), True)
        self.assertIs(words != LastWords((1, True, 2, "b")), False)
        for other in (LastWords(), LastWords((2, True, 2, "b")), LastWords((1, False, 2, "b")),
                      LastWords((1, True, 3, "b")), LastWords((1, True, 2, "c")), None, {1: (2, "b", True)}):
            self.assertIs(words == other, False)

    def test_the_order_does_not_matter(self):
        rng = random.Random(52)
        for _ in range(100):
            rows = [
                (rng.randint(1, 3), rng.random() < 0.5, rng.randint(0, 2), rng.choice(["d", "e"]))
                for _ in range(rng.randint(0, 10))
            ]
            words = LastWords(*rows)
            self.assertEqual(words.numbers(), sorted({row[0] for row in rows}))
            for number in words.numbers():
                self.assertEqual(words.last(number), max(row[2:] + (row[1],) for row in rows if row[0] == number))
            rng.shuffle(rows)
            cut = rng.randint(0, len(rows))
            self.assertEqual(words, LastWords(*rows[:cut]) | LastWords(*rows[cut:]))
            said = LastWords()
            for number, seen, count, device in rows:
                before = said.last(number)
                changed = said.say(number, seen, count=count, device=device)
                self.assertIs(changed, said.last(number) != before)
            self.assertEqual(words, said)


if __name__ == "__main__":
    unittest.main()
