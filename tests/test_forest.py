"""Forests: [27] to [29]."""

import random
import unittest

from filedalike.errors import Clash
from filedalike.forest import Forest
from filedalike.letters import Letter
from tests.models import parents_of, random_letter, random_letters


def letter(number, *answers, person="a"):
    return Letter(number, person, "b", answers=answers)


def told(forest):
    return forest.summary(), forest.roots(), forest.drawn(), len(forest)


class Trees(unittest.TestCase):
    def test_the_example_of_the_document(self):
        forest = Forest.of([Letter(4, "ann", "oak", answers=(9,)), Letter(6, "bob", "elm", answers=(9, 2))])
        self.assertEqual(forest.drawn(), ["  0 2 -", "  0 9 -", "  1 4 ann at oak", "  1 6 bob at elm"])

    def test_the_first_answer_is_the_parent(self):
        forest = Forest.of([letter(4, 9, 2), letter(5, 4), letter(6, 4, 1), letter(7)])
        self.assertEqual([forest.parent(number) for number in (4, 5, 6, 7, 9, 2, 1, 3)],
                         [9, 4, 4, None, None, None, None, None])
        self.assertEqual(forest.roots(), (1, 2, 7, 9))
        self.assertEqual(forest.children(4), (5, 6))
        self.assertEqual(forest.children(9), (4,))
        self.assertEqual(forest.children(2), ())
        self.assertEqual(forest.path(5), (5, 4, 9))
        self.assertEqual((forest.root(5), forest.depth(5)), (9, 2))
        self.assertEqual((forest.path(9), forest.root(9), forest.depth(9)), ((9,), 9, 0))
        self.assertEqual(forest.summary(), [(1, None), (2, None), (4, 9), (5, 4), (6, 4), (7, None), (9, None)])
        self.assertIs(forest.ring_at(5), None)

    def test_unknown_numbers(self):
        forest = Forest.of([letter(4, 9)])
        self.assertEqual((forest.path(3), forest.children(3)), ((), ()))
        for value in (forest.parent(3), forest.root(3), forest.depth(3), forest.ring_at(3)):
            self.assertIs(value, None)

    def test_a_root_may_get_a_parent(self):
        forest = Forest.of([letter(4, 9)])
        self.assertEqual(forest.root(4), 9)
        forest.put(letter(9, 2))
        self.assertEqual((forest.root(4), forest.path(4), forest.roots()), (2, (4, 9, 2), (2,)))


class Rings(unittest.TestCase):
    def test_two_letters_that_answer_each_other(self):
        for letters in ([letter(1, 2), letter(2, 1)], [letter(2, 1), letter(1, 2)]):
            forest = Forest.of(letters)
            self.assertEqual(forest.summary(), [(1, 2), (2, None)])
            self.assertEqual((forest.ring_at(1), forest.ring_at(2)), ((2, 1), (2, 1)))
            self.assertEqual((forest.children(1), forest.children(2)), ((), (1,)))

    def test_the_first_link_of_the_greatest_number_is_cut(self):
        ring = [letter(5, 2), letter(2, 8), letter(8, 3), letter(3, 5)]
        for shift in range(4):
            forest = Forest.of(ring[shift:] + ring[:shift])
            self.assertEqual(forest.summary(), [(2, 8), (3, 5), (5, 2), (8, None)])
            for number in (2, 3, 5, 8):
                self.assertEqual(forest.ring_at(number), (8, 3, 5, 2))
            self.assertEqual((forest.path(3), forest.depth(3), forest.root(3)), ((3, 5, 2, 8), 3, 8))
            self.assertEqual((forest.children(3), forest.children(8)), ((), (2,)))

    def test_what_hangs_below_a_ring(self):
        forest = Forest.of([letter(1, 2), letter(2, 1), letter(7, 1), letter(9, 7), letter(4, 30)])
        self.assertEqual(forest.ring_at(9), (2, 1))
        self.assertEqual(forest.path(9), (9, 7, 1, 2))
        self.assertEqual((forest.ring_at(4), forest.ring_at(30)), (None, None))
        self.assertEqual(forest.roots(), (2, 30))

    def test_a_ring_only_of_first_links(self):
        forest = Forest.of([letter(1, 2), letter(2, 3, 1), letter(3)])
        self.assertEqual(forest.summary(), [(1, 2), (2, 3), (3, None)])
        self.assertIs(forest.ring_at(1), None)

    def test_a_ring_through_an_absent_number_is_none_yet(self):
        forest = Forest.of([letter(1, 2), letter(3, 1)])
        self.assertIs(forest.ring_at(1), None)
        forest.put(letter(2, 3))
        self.assertEqual(forest.ring_at(1), (3, 1, 2))
        self.assertIsInstance(forest.ring_at(1), tuple)

    def test_two_rings_in_two_trees_of_one_thread(self):
        forest = Forest.of([letter(1, 2), letter(2, 1), letter(3, 4, 1), letter(4, 3)])
        self.assertEqual((forest.ring_at(1), forest.ring_at(3), forest.roots()), ((2, 1), (4, 3), (2, 4)))


class Putting(unittest.TestCase):
    def test_put_tells_whether_the_letter_is_new(self):
        forest = Forest()
        self.assertIs(forest.put(letter(1, 2)), True)
        before = told(forest)
        self.assertIs(forest.put(letter(1, 2)), False)
        self.assertEqual(told(forest), before)

    def test_a_clash_changes_nothing(self):
        forest = Forest.of([letter(1, 2), letter(2, 1)])
        before = told(forest)
        for other in (letter(1), letter(1, 3), letter(1, 2, person="c")):
            with self.assertRaises(Clash) as caught:
                forest.put(other)
            self.assertEqual(caught.exception.number, 1)
            self.assertEqual(told(forest), before)
            self.assertIs(3 in forest, False)

    def test_of_raises_what_put_raises(self):
        with self.assertRaises(Clash) as caught:
            Forest.of([letter(1), letter(2), letter(2, 3), letter(1, 2)])
        self.assertEqual(caught.exception.number, 2)

    def test_of_copies_its_list(self):
        letters = [letter(1), letter(2, 1)]
        forest = Forest.of(letters)
        letters.clear()
        self.assertEqual(forest.summary(), [(1, None), (2, 1)])
        self.assertIsInstance(forest, Forest)


class Container(unittest.TestCase):
    def test_empty(self):
        forest = Forest()
        self.assertEqual(told(forest), ([], (), [], 0))
        self.assertEqual(list(forest.walk_trees()), [])
        self.assertIs(1 in forest, False)

    def test_known_numbers_are_in_it(self):
        forest = Forest.of([letter(4, 9, 2)])
        self.assertEqual([number in forest for number in (4, 9, 2, 3)], [True, True, True, False])
        self.assertEqual(len(forest), 3)

    def test_lists_are_new(self):
        forest = Forest.of([letter(4, 9, 2)])
        for call in (forest.summary, forest.drawn):
            found = call()
            self.assertIsInstance(found, list)
            found.clear()
            self.assertEqual(len(call()), 3)
        for value in (forest.path(4), forest.children(9), forest.roots()):
            self.assertIsInstance(value, tuple)

    def test_equality_is_that_of_summaries(self):
        forest = Forest.of([letter(4, 9, 2), letter(5)])
        self.assertIs(forest == Forest.of([letter(5), letter(4, 9, 2)]), True)
        self.assertIs(forest != Forest.of([letter(5), letter(4, 9, 2)]), False)
        self.assertIs(forest == Forest.of([letter(5, person="c"), letter(2), letter(4, 9)]), True)
        self.assertIs(forest == Forest.of([letter(4, 2, 9), letter(5)]), False)
        self.assertIs(forest == Forest.of([letter(4, 9, 2)]), False)
        self.assertIs(Forest() == Forest(), True)
        for other in (None, forest.summary(), 0, []):
            self.assertIs(forest == other, False)
        self.assertIs(Forest() == [], False)


class Drawing(unittest.TestCase):
    def test_walk_trees(self):
        forest = Forest.of([letter(20, 9), letter(4, 9), letter(6, 4), letter(5, 4), letter(8, 20), letter(3)])
        found = list(forest.walk_trees())
        self.assertEqual(found, [(0, 3), (0, 9), (1, 4), (2, 5), (2, 6), (1, 20), (2, 8)])
        walk = forest.walk_trees()
        self.assertIs(iter(walk), walk)
        self.assertEqual(next(walk), (0, 3))

    def test_drawn(self):
        letters = [Letter(number, "ann", "oak", answers=(number - 1,)) for number in range(2, 13)]
        forest = Forest.of(letters)
        rows = forest.drawn()
        self.assertEqual(rows[0], "  0 1 -")
        self.assertEqual(rows[9], "  9 10 ann at oak")
        self.assertEqual(rows[10:], [" 10 11 ann at oak", " 11 12 ann at oak"])

    def test_a_ring_is_drawn_from_its_greatest_number(self):
        forest = Forest.of([letter(1, 3), letter(3, 2), letter(2, 1), letter(7, 2)])
        self.assertEqual(list(forest.walk_trees()), [(0, 3), (1, 1), (2, 2), (3, 7)])


class AtRandom(unittest.TestCase):
    def test_forests_are_as_in_the_model(self):
        rng = random.Random(12)
        for _ in range(250):
            most = rng.randint(2, 12)
            letters = random_letters(rng, most, rng.randint(0, most), rng.randint(1, 3))
            forest = Forest()
            for at, each in enumerate(letters):
                self.assertIs(forest.put(each), True)
                self.check(forest, letters[:at + 1], most)
            rng.shuffle(letters)
            self.assertEqual(told(forest), told(Forest.of(letters + letters[:2])))
            self.assertEqual(forest, Forest.of(letters))

    def check(self, forest, letters, most):
        parents, rings = parents_of(letters)
        self.assertEqual(forest.summary(), sorted(parents.items()))
        self.assertEqual(len(forest), len(parents))
        self.assertEqual(forest.roots(), tuple(sorted(each for each in parents if parents[each] is None)))
        for number in range(1, most + 2):
            path = [number] if number in parents else []
            while path and parents[path[-1]] is not None:
                path.append(parents[path[-1]])
            self.assertEqual(number in forest, number in parents)
            self.assertEqual(forest.parent(number), parents.get(number))
            self.assertEqual(forest.path(number), tuple(path))
            self.assertEqual(forest.root(number), path[-1] if path else None)
            self.assertEqual(forest.depth(number), len(path) - 1 if path else None)
            self.assertEqual(forest.children(number),
                             tuple(sorted(each for each in parents if parents[each] == number)))
            self.assertEqual(forest.ring_at(number), rings.get(path[-1]) if path else None)
        self.check_walk(forest, letters, parents)

    def check_walk(self, forest, letters, parents):
        def below(number, depth):
            rows = [(depth, number)]
            for child in sorted(each for each in parents if parents[each] == number):
                rows += below(child, depth + 1)
            return rows

        rows = [row for root in sorted(parents) if parents[root] is None for row in below(root, 0)]
        senders = {letter.number: letter.sender for letter in letters}
        self.assertEqual(list(forest.walk_trees()), rows)
        self.assertEqual(forest.drawn(), ["%3d %d %s" % (*row, senders.get(row[1], "-")) for row in rows])

    def test_clashes_at_random(self):
        rng = random.Random(13)
        for _ in range(60):
            letters = random_letters(rng, 8, 6)
            forest = Forest.of(letters)
            before = told(forest)
            other = random_letter(rng, letters[0].number, 20)
            if other != letters[0]:
                with self.assertRaises(Clash):
                    forest.put(other)
            self.assertEqual(told(forest), before)


class Thousands(unittest.TestCase):
    def test_long_paths(self):
        many = 5000
        for order in (1, -1):
            forest = Forest.of([letter(number, number - 1) for number in range(2, many + 1)][::order])
            self.assertEqual(forest.path(many), tuple(range(many, 0, -1)))
            self.assertEqual((forest.depth(many), forest.root(many)), (many - 1, 1))
            self.assertEqual(list(forest.walk_trees()), [(number - 1, number) for number in range(1, many + 1)])
            self.assertEqual(forest.drawn()[-1], f"{many - 1} {many} a at b")
            self.assertEqual(len(forest.summary()), many)

    def test_a_long_ring(self):
        many = 4000
        letters = [letter(number, number - 1) for number in range(2, many + 1)] + [letter(1, many)]
        random.Random(14).shuffle(letters)
        forest = Forest.of(letters)
        self.assertEqual(forest.ring_at(7), tuple(range(many, 0, -1)))
        self.assertEqual(forest.roots(), (many,))
        self.assertEqual(forest.depth(many - 1), many - 1)

    def test_many_children(self):
        forest = Forest.of([letter(number, 1) for number in range(4000, 1, -1)])
        self.assertEqual(forest.children(1), tuple(range(2, 4001)))


if __name__ == "__main__":
    unittest.main()
