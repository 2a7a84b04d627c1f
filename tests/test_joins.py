"""Joins and chains: [24] to [26]."""

import random
import unittest

from filedalike.errors import Clash
from filedalike.joins import Join, chain, each_join, join_of, together_since
from filedalike.letters import Letter
from filedalike.threads import Threads
from tests.models import random_letters, shortest_chain, threads_of


def letter(number, *answers, person="a"):
    return Letter(number, person, "b", answers=answers)


def told(join):
    return join.number, join.is_new, join.met, join.now, join.gone, join.gained


class JoinOf(unittest.TestCase):
    def check(self, letters, new, *values):
        threads = Threads.of(letters)
        join = join_of(threads, new)
        self.assertEqual(told(join), (new.number, *values))
        self.assertIsInstance(join, Join)
        self.assertIs(join.is_new, values[0])
        for value in (join.met, join.gone, join.gained):
            self.assertIsInstance(value, tuple)
        self.assertEqual(threads, Threads.of(letters))
        self.assertEqual(threads.summary(), Threads.of(letters).summary())

    def test_a_letter_alone(self):
        self.check([], letter(5), True, (), 5, (), (5,))
        self.check([letter(1)], letter(5, 9, 2), True, (), 2, (), (2, 5, 9))

    def test_threads_that_are_met(self):
        here = [letter(5, 9), letter(7, 2), letter(8)]
        self.check(here, letter(20, 8), True, (8,), 8, (), (20,))
        self.check(here, letter(20, 8, 5, 7), True, (2, 5, 8), 2, (5, 8), (20,))
        self.check(here, letter(20, 8, 5, 30), True, (5, 8), 5, (8,), (20, 30))

    def test_a_new_least_number_makes_all_names_go(self):
        here = [letter(5, 9), letter(8)]
        self.check(here, letter(3, 5, 8), True, (5, 8), 3, (5, 8), (3,))
        self.check(here, letter(20, 8, 1), True, (8,), 1, (8,), (1, 20))

    def test_a_letter_that_was_absent(self):
        here = [letter(5, 9), letter(8)]
        self.check(here, letter(9), True, (5,), 5, (), ())
        self.check(here, letter(9, 8, 1), True, (5, 8), 1, (5, 8), (1,))

    def test_a_letter_that_comes_once_more(self):
        here = [letter(5, 9), letter(7, 2), letter(9, 7)]
        self.check(here, letter(5, 9), False, (2,), 2, (), ())
        self.check([letter(5)], letter(5), False, (5,), 5, (), ())

    def test_a_clash(self):
        threads = Threads.of([letter(5, 9)])
        with self.assertRaises(Clash) as caught:
            join_of(threads, letter(5))
        self.assertEqual(caught.exception.number, 5)
        self.assertEqual(threads.summary(), [(5, (5,), (9,))])

    def test_equality(self):
        here = Threads.of([letter(5, 9), letter(8)])
        first = join_of(here, letter(20, 8))
        self.assertIs(first == join_of(here, letter(20, 8)), True)
        self.assertIs(first == join_of(here, letter(20, 8, person="c")), True)
        self.assertIs(first != join_of(here, letter(20, 8)), False)
        self.assertIs(first == join_of(here, letter(21, 8)), False)
        self.assertIs(first == join_of(here, letter(20, 8, 5)), False)
        self.assertIs(first == join_of(here, letter(20, 8, 30)), False)
        absent = Threads.of([letter(5, 9, 2)])
        self.assertIs(join_of(absent, letter(9)) == join_of(absent, letter(2)), False)
        self.assertIs(join_of(here, letter(9)) == join_of(Threads.of([letter(5, 9), letter(8), letter(9)]), letter(9)),
                      False)
        for other in (None, told(first), 20):
            self.assertIs(first == other, False)

    def test_joins_at_random(self):
        rng = random.Random(9)
        for _ in range(200):
            letters = random_letters(rng, 12, 8)
            for at, each in enumerate(letters):
                before, after = threads_of(letters[:at]), threads_of(letters[:at + 1])
                met = tuple(sorted({min(before[n]) for n in (each.number, *each.answers) if n in before}))
                now = min(after[each.number])
                gone = tuple(name for name in met if name != now)
                gained = tuple(sorted(set(after) - set(before)))
                self.check(letters[:at], each, True, met, now, gone, gained)
                self.check(letters[:at + 1], each, False, (now,), now, (), ())


class EachJoin(unittest.TestCase):
    def test_joins_in_order(self):
        letters = [letter(5, 9), letter(8), letter(5, 9), letter(9, 8), letter(1, 5)]
        found = [told(join) for join in each_join(letters)]
        self.assertEqual(found, [
            (5, True, (), 5, (), (5, 9)), (8, True, (), 8, (), (8,)), (5, False, (5,), 5, (), ()),
            (9, True, (5, 8), 5, (8,), ()), (1, True, (5,), 1, (5,), (1,)),
        ])
        self.assertEqual(len(letters), 5)
        self.assertEqual(list(each_join([])), [])

    def test_a_clash_comes_behind_the_joins_before_it(self):
        found = []
        with self.assertRaises(Clash) as caught:
            for join in each_join([letter(5), letter(6, 5), letter(5, 6), letter(7)]):
                found.append(join.number)
        self.assertEqual(found, [5, 6])
        self.assertEqual(caught.exception.number, 5)

    def test_it_is_a_generator(self):
        joins = each_join([letter(5), letter(5, 6)])
        self.assertIs(iter(joins), joins)
        self.assertEqual(next(joins).number, 5)
        with self.assertRaises(Clash):
            next(joins)

    def test_thousands(self):
        many = 4000
        joins = list(each_join([letter(number, number - 1) for number in range(many, 1, -1)]))
        self.assertEqual(told(joins[-1]), (2, True, (2,), 1, (2,), (1,)))
        self.assertEqual(len(joins), many - 1)


class Together(unittest.TestCase):
    def test_the_least_index(self):
        letters = [letter(5, 9), letter(8), letter(9, 8), letter(5, 9), letter(1, 5)]
        self.assertEqual(together_since(letters, 5, 9), 0)
        self.assertEqual(together_since(letters, 9, 5), 0)
        self.assertEqual(together_since(letters, 5, 8), 2)
        self.assertEqual(together_since(letters, 8, 1), 4)
        self.assertIs(together_since(letters, 5, 20), None)
        self.assertIs(together_since(letters, 20, 21), None)
        self.assertIs(together_since(letters[:2], 5, 8), None)
        self.assertIs(together_since([], 1, 1), None)

    def test_equal_numbers(self):
        letters = [letter(5, 9), letter(8)]
        self.assertEqual([together_since(letters, number, number) for number in (5, 9, 8, 7)], [0, 0, 1, None])

    def test_absent_numbers(self):
        self.assertEqual(together_since([letter(1, 7, 8), letter(2)], 7, 8), 0)
        self.assertEqual(together_since([letter(1, 7), letter(2, 8), letter(3, 7, 8)], 7, 8), 2)

    def test_clashes_anywhere(self):
        for letters in (
            [letter(1, 2), letter(1)], [letter(1), letter(1, 2)], [letter(1, 2), letter(3), letter(3, 1)],
        ):
            with self.assertRaises(Clash) as caught:
                together_since(letters, 1, 2)
            self.assertEqual(caught.exception.number, letters[-1].number)
        with self.assertRaises(Clash) as caught:
            together_since([letter(1, 2), letter(3), letter(3, 1), letter(1)], 1, 2)
        self.assertEqual(caught.exception.number, 3)

    def test_together_at_random(self):
        rng = random.Random(10)
        for _ in range(100):
            letters = random_letters(rng, 9, 7, 2)
            for first in range(1, 11):
                for second in range(1, 11):
                    since = [
                        at for at in range(len(letters))
                        if first in threads_of(letters[:at + 1]).get(second, ())
                    ]
                    self.assertEqual(together_since(letters, first, second), min(since, default=None))


class Chains(unittest.TestCase):
    def test_equal_numbers(self):
        threads = Threads.of([letter(5, 9)])
        self.assertEqual([chain(threads, number, number) for number in (5, 9, 7)], [(5,), (9,), None])

    def test_links_lead_both_ways(self):
        threads = Threads.of([letter(5, 9), letter(7, 9)])
        self.assertEqual(chain(threads, 5, 9), (5, 9))
        self.assertEqual(chain(threads, 9, 5), (9, 5))
        self.assertEqual(chain(threads, 5, 7), (5, 9, 7))

    def test_other_threads_and_unknown_numbers(self):
        threads = Threads.of([letter(5, 9), letter(7)])
        for first, second in ((5, 7), (7, 9), (5, 20), (20, 5), (20, 21)):
            self.assertIs(chain(threads, first, second), None)
        self.assertIs(chain(Threads(), 1, 1), None)

    def test_the_shortest_and_then_the_least(self):
        threads = Threads.of([letter(1, 4, 3), letter(9, 3, 4), letter(2, 1), letter(6, 2), letter(9 + 1, 6, 9)])
        self.assertEqual(chain(threads, 1, 9), (1, 3, 9))
        self.assertEqual(chain(threads, 9, 1), (9, 3, 1))
        self.assertEqual(chain(threads, 2, 10), (2, 6, 10))
        self.assertEqual(chain(threads, 4, 6), (4, 1, 2, 6))
        self.assertIsInstance(chain(threads, 1, 9), tuple)

    def test_the_first_unlike_position_decides(self):
        # By way of 2 the chain goes on over 9, by way of 3 over 4.
        threads = Threads.of([letter(1, 3, 2), letter(9, 2, 10), letter(4, 3, 10)])
        self.assertEqual(chain(threads, 1, 10), (1, 2, 9, 10))
        self.assertEqual(chain(threads, 10, 1), (10, 4, 3, 1))

    def test_letters_that_answer_each_other(self):
        threads = Threads.of([letter(1, 2), letter(2, 1), letter(3, 2)])
        self.assertEqual(chain(threads, 1, 3), (1, 2, 3))

    def test_chains_at_random(self):
        rng = random.Random(11)
        for _ in range(120):
            letters = random_letters(rng, 8, rng.randint(1, 8), 3)
            threads = Threads.of(letters)
            for first in range(1, 10):
                for second in range(1, 10):
                    self.assertEqual(chain(threads, first, second), shortest_chain(letters, first, second))
            self.assertEqual(threads.summary(), Threads.of(letters).summary())

    def test_thousands(self):
        many = 5000
        threads = Threads.of([letter(number, number - 1) for number in range(2, many + 1)])
        self.assertEqual(chain(threads, 1, many), tuple(range(1, many + 1)))
        self.assertEqual(chain(threads, many, 1), tuple(range(many, 0, -1)))
        threads.put(letter(many + 1, 1, many))
        self.assertEqual(chain(threads, 1, many), (1, many + 1, many))


if __name__ == "__main__":
    unittest.main()
