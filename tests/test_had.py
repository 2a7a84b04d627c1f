"""Sets of pairs of a device and a number: [95]."""

import random
import unittest

from filedalike.had import BadHad, Had

MOST = 10 ** 30
DEVICES = ["a", "ab", "b"]


def rows_of(pairs):
    """The longest stretches of a set of pairs, by trying each pair as the first one."""
    rows = []
    for device, first in sorted(pairs):
        if (device, first - 1) not in pairs:
            last = first
            while (device, last + 1) in pairs:
                last += 1
            rows.append((device, first, last))
    return tuple(rows)


def random_pairs(rng, many=12):
    return {(rng.choice(DEVICES), rng.randint(1, 9)) for _ in range(rng.randint(0, many))}


class Sets(unittest.TestCase):
    def check(self, had, pairs):
        self.assertIsInstance(had, Had)
        self.assertEqual(had.rows, rows_of(pairs))
        self.assertEqual(list(had), list(rows_of(pairs)))
        self.assertEqual(had.many(), len(pairs))
        for device in DEVICES + ["c"]:
            for number in range(1, 12):
                self.assertIs((device, number) in had, (device, number) in pairs)
            numbers = [number for other, number in pairs if other == device]
            self.assertEqual(had.following(device), max(numbers, default=0) + 1)

    def test_the_example(self):
        had = Had([("bob", 2), ("ann", 4), ("ann", 2), ("ann", 3), ("ann", 7)])
        self.assertEqual((had.written(), had.gaps().written()), ("ann 2-4,7; bob 2", "ann 1,5-6; bob 1"))
        self.assertEqual(had.rows, (("ann", 2, 4), ("ann", 7, 7), ("bob", 2, 2)))

    def test_the_empty_set(self):
        for had in (Had(), Had([]), Had(()), Had.of([]), Had.read(""), Had([("a", 1)]) - Had([("a", 1)])):
            self.check(had, set())
            self.assertEqual((had.written(), had.rows), ("", ()))
            self.assertEqual(had.gaps().rows, ())

    def test_pairs_in_any_order_and_twice(self):
        rng = random.Random(101)
        for _ in range(200):
            pairs = random_pairs(rng)
            told = list(pairs) + rng.sample(sorted(pairs), rng.randint(0, len(pairs)))
            rng.shuffle(told)
            before = list(told)
            self.check(Had(rng.choice([list, tuple])(told)), pairs)
            self.assertEqual(told, before)

    def test_stretches_that_overlap(self):
        rng = random.Random(102)
        for _ in range(200):
            rows = []
            for _ in range(rng.randint(0, 6)):
                first = rng.randint(1, 9)
                rows.append((rng.choice(DEVICES), first, rng.randint(first, 10)))
            pairs = {(device, number) for device, first, last in rows for number in range(first, last + 1)}
            before = list(rows)
            self.check(Had.of(rows), pairs)
            self.assertEqual(rows, before)

    def test_a_stretch_within_another_one(self):
        self.assertEqual(Had.of([("a", 1, 9), ("a", 2, 3), ("a", 10, 10)]).rows, (("a", 1, 10),))
        self.assertEqual(Had.of([("a", 1, 2), ("b", 3, 4)]).rows, (("a", 1, 2), ("b", 3, 4)))

    def test_unions_and_their_kin(self):
        rng = random.Random(103)
        for _ in range(300):
            ones, others = random_pairs(rng), random_pairs(rng)
            one, other = Had(list(ones)), Had(list(others))
            self.check(one | other, ones | others)
            self.check(one & other, ones & others)
            self.check(one - other, ones - others)
            self.check(one, ones)
            self.check(other, others)

    def test_gaps(self):
        rng = random.Random(104)
        for _ in range(200):
            pairs = random_pairs(rng)
            gaps = {
                (device, number) for device, most in pairs for number in range(1, most) if (device, number) not in pairs
            }
            self.check(Had(list(pairs)).gaps(), gaps)

    def test_equal_sets(self):
        rng = random.Random(105)
        for _ in range(200):
            ones, others = random_pairs(rng, 2), random_pairs(rng, 2)
            self.assertIs(Had(list(ones)) == Had(list(others)), ones == others)
        for other in ((), None, "", "a 1"):
            self.assertFalse(Had() == other)
        self.assertTrue(Had.of([("a", 1, 2)]) == Had([("a", 2), ("a", 1)]))

    def test_long_stretches(self):
        had = Had.of([("a", 1, MOST), ("b", 5, MOST - 1)])
        self.assertEqual(had.many(), MOST + MOST - 5)
        self.assertEqual((had.following("a"), had.following("b")), (MOST + 1, MOST))
        self.assertEqual((had - Had([("a", 7)])).rows, (("a", 1, 6), ("a", 8, MOST), ("b", 5, MOST - 1)))
        self.assertEqual((had & Had.of([("b", 1, MOST)])).rows, (("b", 5, MOST - 1),))
        self.assertTrue(("b", MOST - 1) in had and ("b", MOST) not in had and ("a", MOST) in had)
        self.assertEqual(had.gaps().rows, (("b", 1, 4),))
        self.assertEqual(Had.read(had.written()), had)


class Texts(unittest.TestCase):
    def test_written_sets(self):
        for rows, text in (
            ([("a", 1, 1)], "a 1"), ([("a", 1, 2)], "a 1-2"), ([("b", 1, 1), ("a", 3, 3), ("a", 1, 1)], "a 1,3; b 1"),
            ([("a", 9, 10), ("ab", 2, 2)], "a 9-10; ab 2"), ([("a", 1, MOST)], f"a 1-{MOST}"),
        ):
            self.assertEqual(Had.of(rows).written(), text)
            self.assertEqual(Had.read(text).rows, Had.of(rows).rows)

    def test_texts_of_one_device_and_of_several(self):
        for rows, text in (
            ([("ann", 7, 7)], "ann 7"),
            ([("ann", 7, 9)], "ann 7-9"),
            ([("ann", 9, 9), ("ann", 7, 7), ("ann", 1, 1)], "ann 1,7,9"),
            ([("ann", 9, 12), ("ann", 1, 3), ("ann", 5, 7)], "ann 1-3,5-7,9-12"),
            ([("ann", 9, 9), ("ann", 1, 3), ("ann", 5, 5), ("ann", 11, 12)], "ann 1-3,5,9,11-12"),
            ([("bob", 1, 1), ("ann", 1, 1)], "ann 1; bob 1"),
            ([("bob", 1, 2), ("ann", 1, 2)], "ann 1-2; bob 1-2"),
            ([("bob", 2, 2), ("ann", 4, 4), ("ann", 2, 3), ("ann", 7, 7)], "ann 2-4,7; bob 2"),
            ([("cy", 3, 3), ("cy", 5, 6), ("ann", 3, 3), ("bob", 3, 3), ("bob", 1, 1)], "ann 3; bob 1,3; cy 3,5-6"),
        ):
            had = Had.of(rows)
            for _ in range(2):
                self.assertEqual(had.written(), text)
            self.assertEqual(Had.read(text), had)
            self.assertEqual(had, Had.of(rows))

    def test_texts_against_a_plain_writing(self):
        rng = random.Random(107)
        for _ in range(300):
            pairs = random_pairs(rng)
            texts = []
            for device in sorted({device for device, _ in pairs}):
                rows = rows_of({pair for pair in pairs if pair[0] == device})
                stretches = ",".join(f"{first}" if first == last else f"{first}-{last}" for _, first, last in rows)
                texts.append(f"{device} {stretches}")
            self.assertEqual(Had(list(pairs)).written(), "; ".join(texts))

    def test_reading_what_was_written(self):
        rng = random.Random(106)
        for _ in range(200):
            had = Had(list(random_pairs(rng)))
            self.assertEqual(Had.read(had.written()), had)

    def test_wrong_texts(self):
        wrong = (
            " ", "a", "a ", "a 0", "a -1", "a 1-", "a -", "a 1-1", "a 2-1", "a 3,1", "a 1,2", "a 1-2,3", "a 1-3,2-5",
            "a 1,1",
            "a 01", "a 1,", "a ,1", "a 1, 3", "a  1", " a 1", "a 1 ", "a 1\n", "a 1;", "a 1; ", "a 1;b 1", "a 1;  b 1",
            "b 1; a 1", "a 1; a 3", "A 1", "abcdefghi 1", "a 1--3", "a 1-2-3", "a one", "a \u0661", "1 a", "a 1.0", ";",
            "; ", "a 1; ; b 1", f"a {MOST + 1}", f"a 1-{MOST + 1}", "a 1" + "0" * 5000, "a +1", "a 1_0",
        )
        for text in wrong:
            with self.assertRaises(BadHad) as caught:
                Had.read(text)
            self.assertEqual(caught.exception.text, text)


if __name__ == "__main__":
    unittest.main()
