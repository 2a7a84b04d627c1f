"""Families of sets: [83]."""

import random
import unittest
from itertools import combinations

from filedalike.leastsets import blockers, is_upward, least_of, subsets


def told(family):
    return sorted(family, key=lambda numbers: (len(numbers), numbers))


def all_parts(items):
    return [part for many in range(len(items) + 1) for part in combinations(items, many)]


def random_family(rng, most):
    items = sorted(rng.sample(range(-3, 40), rng.randint(0, most)))
    family = [part for part in all_parts(items) if rng.random() < rng.choice([0.05, 0.2, 0.6])]
    rng.shuffle(family)
    return items, family


class Subsets(unittest.TestCase):
    def test_told_order(self):
        self.assertEqual(list(subsets((2, 5, 7))), [(), (2,), (5,), (7,), (2, 5), (2, 7), (5, 7), (2, 5, 7)])
        self.assertEqual(list(subsets(())), [()])
        self.assertEqual(list(subsets((4,))), [(), (4,)])

    def test_it_is_a_generator(self):
        parts = subsets((1, 2))
        self.assertIs(iter(parts), parts)
        self.assertEqual(next(parts), ())

    def test_eight_items(self):
        items = (1, 2, 3, 5, 8, 13, 21, 34)
        self.assertEqual(list(subsets(items)), all_parts(items))


class LeastOf(unittest.TestCase):
    def test_families(self):
        self.assertEqual(least_of([]), [])
        self.assertEqual(least_of([()]), [()])
        self.assertEqual(least_of([(1,), (), (2, 3)]), [()])
        self.assertEqual(least_of([(2, 3), (1, 2, 3), (4,), (1, 4), (1, 2)]), [(4,), (1, 2), (2, 3)])
        self.assertEqual(least_of([(10, 11), (2, 30), (9,)]), [(9,), (2, 30), (10, 11)])

    def test_at_random(self):
        rng = random.Random(91)
        for _ in range(150):
            _, family = random_family(rng, 6)
            before = list(family)
            least = [one for one in family if not any(set(other) < set(one) for other in family)]
            self.assertEqual(least_of(family), told(least))
            self.assertEqual(family, before)


class Blockers(unittest.TestCase):
    def test_the_empty_family_and_the_empty_tuple(self):
        self.assertEqual(blockers([]), [()])
        self.assertEqual(blockers([()]), [])
        self.assertEqual(blockers([(1, 2), (), (3,)]), [])

    def test_families(self):
        self.assertEqual(blockers([(1, 2)]), [(1,), (2,)])
        self.assertEqual(blockers([(1,), (2, 3)]), [(1, 2), (1, 3)])
        self.assertEqual(blockers([(2, 3), (1,), (1, 2)]), [(1, 2), (1, 3)])
        self.assertEqual(blockers([(1, 2), (2, 3), (3, 4)]), [(1, 3), (2, 3), (2, 4)])
        self.assertEqual(blockers([(5, 6), (1, 6)]), [(6,), (1, 5)])

    def test_at_random(self):
        rng = random.Random(92)
        for _ in range(150):
            _, family = random_family(rng, 6)
            before = list(family)
            items = sorted({number for one in family for number in one})
            sharing = [part for part in all_parts(items) if all(set(part) & set(one) for one in family)]
            least = [part for part in sharing if not any(set(other) < set(part) for other in sharing)]
            self.assertEqual(blockers(family), told(least))
            self.assertEqual(family, before)
            # The blockers of the blockers are the least members.
            self.assertEqual(blockers(blockers(family)), least_of(family))

    def test_a_large_family(self):
        family = list(combinations(range(8), 4))
        self.assertEqual(blockers(family), list(combinations(range(8), 5)))


class IsUpward(unittest.TestCase):
    def test_families(self):
        self.assertIs(is_upward([], (1, 2)), True)
        self.assertIs(is_upward([()], ()), True)
        self.assertIs(is_upward([()], (1,)), False)
        self.assertIs(is_upward([(1,), ()], (1,)), True)
        self.assertIs(is_upward([(2,), (1, 2), (1,)], (1, 2)), True)
        self.assertIs(is_upward([(2,), (1, 2), (1,)], (1, 2, 3)), False)
        self.assertIs(is_upward([(2,), (1,)], (1, 2)), False)
        self.assertIs(is_upward([(1, 3), (1, 2, 3)], (2, 3)), True)

    def test_at_random(self):
        rng = random.Random(93)
        found = {True: 0, False: 0}
        for _ in range(300):
            items, family = random_family(rng, 3)
            upward = all(tuple(sorted({*one, item})) in family for one in family for item in items)
            self.assertIs(is_upward(family, tuple(items)), upward)
            found[upward] += 1
        self.assertTrue(min(found.values()) > 20)


if __name__ == "__main__":
    unittest.main()
