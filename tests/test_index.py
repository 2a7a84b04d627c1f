"""The index of keys: [109]."""

import random
import unittest

from filedalike.index import Index

KEYS = ["a", "b", "", ("a",), ("a", 1), ("a", 2), ("a", 1, "x"), ("b", 1), ("b", -5), (3, "x"), (3,), ()]


class Indexes(unittest.TestCase):
    def check(self, index, told):
        """Compare an index with a dict of sets."""
        told = {number: keys for number, keys in told.items() if keys}
        self.assertEqual(len(index), len(told))
        for number in range(-1, 12):
            self.assertIs(number in index, number in told)
        for key in KEYS + ["c", ("c",)]:
            numbers = sorted(number for number in told if key in told[number])
            self.assertEqual(index.numbers_of(key), numbers)
            self.assertEqual(index.how_many(key), len(numbers))
        for lead in ("a", "b", "c", 3, 4):
            used = {key for keys in told.values() for key in keys if isinstance(key, tuple) and key[:1] == (lead,)}
            self.assertEqual(index.all_keys(lead), sorted(used))

    def test_the_empty_index(self):
        self.check(Index(), {})
        self.assertTrue(Index() == Index())

    def test_keys_replace_those_before(self):
        index = Index()
        self.assertIs(index.lay(5, ["a", ("a", 1), "a"]), True)
        self.check(index, {5: {"a", ("a", 1)}})
        self.assertIs(index.lay(5, (("a", 1), "a")), False)
        self.assertIs(index.lay(5, ["a", "b"]), True)
        self.check(index, {5: {"a", "b"}})
        self.assertIs(index.lay(3, ("b",)), True)
        self.check(index, {5: {"a", "b"}, 3: {"b"}})
        self.assertIs(index.lay(5, []), True)
        self.check(index, {3: {"b"}})
        self.assertIs(index.lay(5, ()), False)
        self.assertIs(index.lay(4, []), False)
        self.check(index, {3: {"b"}})

    def test_all_keys(self):
        index = Index()
        index.lay(1, [("a", 2), ("a", 1, "x"), ("a",), "a", ("b", 1)])
        index.lay(2, [("a", 1), ("a", 2)])
        self.assertEqual(index.all_keys("a"), [("a",), ("a", 1), ("a", 1, "x"), ("a", 2)])
        self.assertEqual(index.all_keys("b"), [("b", 1)])
        index.lay(1, [])
        self.assertEqual(index.all_keys("a"), [("a", 1), ("a", 2)])
        self.assertEqual(index.all_keys("b"), [])

    def test_lists(self):
        index, keys = Index(), ["b", "a"]
        index.lay(1, keys)
        keys.append("c")
        self.assertEqual((index.numbers_of("c"), keys), ([], ["b", "a", "c"]))
        for ask in (lambda: index.numbers_of("a"), lambda: index.all_keys("a")):
            told = ask()
            ask().append(7)
            self.assertIsInstance(told, list)
            self.assertEqual(ask(), told)

    def test_equal_indexes(self):
        one, other = Index(), Index()
        one.lay(1, ["a", "b"])
        one.lay(2, ["a"])
        other.lay(2, ["a"])
        self.assertFalse(one == other)
        other.lay(1, ["b", "a", "a"])
        self.assertTrue(one == other)
        other.lay(3, ["c"])
        self.assertFalse(one == other)
        other.lay(3, [])
        self.assertTrue(one == other)
        other.lay(2, ["b"])
        self.assertTrue(one != other)
        for thing in (None, {}, [], 5):
            self.assertFalse(one == thing)

    def test_at_random(self):
        rng = random.Random(163)
        for _ in range(100):
            index, told = Index(), {}
            for _ in range(rng.randint(1, 15)):
                number = rng.randint(0, 5)
                keys = [rng.choice(KEYS) for _ in range(rng.choice([0, 1, 3]))]
                self.assertIs(index.lay(number, rng.choice([list, tuple])(keys)), set(keys) != told.get(number, set()))
                told[number] = set(keys)
            self.check(index, told)
            other = Index()
            for number in rng.sample(sorted(told), len(told)):
                other.lay(number, sorted(told[number], key=str))
            self.assertTrue(index == other)


if __name__ == "__main__":
    unittest.main()
