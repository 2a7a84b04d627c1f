"""Threads: [19] to [23]."""

import random
import unittest

from filedalike.errors import Clash
from filedalike.letters import Letter
from filedalike.threads import Threads
from tests.models import random_letter, random_letters, threads_of

BIG = 10 ** 30


def letter(number, *answers, person="a"):
    return Letter(number, person, "b", answers=answers)


def told(threads):
    """All that a Threads tells but the order of coming."""
    return threads.summary(), threads.names(), len(threads), sorted(threads)


class Links(unittest.TestCase):
    def test_a_letter_alone(self):
        threads = Threads.of([letter(5)])
        self.assertEqual(threads.summary(), [(5, (5,), ())])
        self.assertEqual((threads.name_of(5), threads.members(5), threads.absent(5)), (5, (5,), ()))

    def test_known_absent_and_unknown_numbers(self):
        threads = Threads.of([letter(5, 9, 2)])
        self.assertEqual([threads.name_of(number) for number in (5, 9, 2, 3)], [2, 2, 2, None])
        for number in (5, 9, 2):
            self.assertEqual((threads.members(number), threads.absent(number)), ((5,), (2, 9)))
        self.assertEqual((threads.members(3), threads.absent(3)), ((), ()))
        self.assertEqual([number in threads for number in (5, 9, 2, 3)], [True, False, False, False])
        self.assertEqual([threads.letter_at(number) for number in (9, 2, 3)], [None] * 3)
        self.assertEqual(threads.letter_at(5), letter(5, 9, 2))

    def test_an_absent_number_joins_two_letters(self):
        threads = Threads.of([letter(5, 9), letter(7, 9), letter(8)])
        self.assertEqual(threads.summary(), [(5, (5, 7), (9,)), (8, (8,), ())])

    def test_the_name_may_be_absent(self):
        threads = Threads.of([letter(5, 1)])
        self.assertEqual(threads.names(), (1,))
        self.assertEqual(threads.summary(), [(1, (5,), (1,))])

    def test_a_letter_comes_for_an_absent_number(self):
        threads = Threads.of([letter(5, 9), letter(9, 3)])
        self.assertEqual(threads.summary(), [(3, (5, 9), (3,))])

    def test_answers_behind_the_first_join_too(self):
        threads = Threads.of([letter(1), letter(2), letter(3), letter(4, 7, 3, 1)])
        self.assertEqual(threads.summary(), [(1, (1, 3, 4), (7,)), (2, (2,), ())])

    def test_great_numbers(self):
        threads = Threads.of([letter(BIG, BIG - 1), letter(1, BIG)])
        self.assertEqual(threads.summary(), [(1, (1, BIG), (BIG - 1,))])


class Putting(unittest.TestCase):
    def test_put_tells_whether_the_letter_is_new(self):
        threads = Threads()
        self.assertIs(threads.put(letter(1, 2)), True)
        before = told(threads)
        self.assertIs(threads.put(letter(1, 2)), False)
        self.assertEqual(told(threads), before)
        self.assertIs(threads.put(letter(2)), True)

    def test_a_clash_changes_nothing(self):
        threads = Threads.of([letter(1, 2), letter(7)])
        before = told(threads)
        for other in (letter(1), letter(1, 3), letter(1, 2, person="c"), letter(1, 7)):
            for call in (threads.put, threads.joined):
                with self.assertRaises(Clash) as caught:
                    call(other)
                self.assertEqual(caught.exception.number, 1)
                self.assertEqual(told(threads), before)
        self.assertEqual(threads.letter_at(1), letter(1, 2))
        self.assertIs(threads.name_of(3), None)

    def test_of_raises_what_put_raises(self):
        with self.assertRaises(Clash) as caught:
            Threads.of([letter(1), letter(2), letter(2, 3), letter(1, 2)])
        self.assertEqual(caught.exception.number, 2)

    def test_of_copies_its_list(self):
        letters = [letter(1), letter(2, 1)]
        threads = Threads.of(letters)
        letters.clear()
        self.assertEqual(len(threads), 2)
        self.assertIsInstance(threads, Threads)

    def test_objects_do_not_share_letters(self):
        first, second = Threads(), Threads()
        first.put(letter(1))
        self.assertEqual((len(first), len(second), second.names()), (1, 0, ()))


class Joined(unittest.TestCase):
    def test_joined(self):
        threads = Threads.of([letter(5, 9), letter(7, 2), letter(8), letter(3)])
        self.assertEqual(threads.joined(letter(20)), ())
        self.assertEqual(threads.joined(letter(20, 30, 40)), ())
        self.assertEqual(threads.joined(letter(20, 30, 8)), (8,))
        self.assertEqual(threads.joined(letter(20, 8, 9, 7, 5)), (2, 5, 8))
        self.assertEqual(threads.joined(letter(9)), (5,))
        self.assertEqual(threads.joined(letter(2, 8)), (2, 8))
        self.assertEqual(threads.joined(letter(20, 7, 2)), (2,))

    def test_joined_of_a_letter_that_has_come(self):
        threads = Threads.of([letter(5, 9), letter(7, 2), letter(9, 7)])
        self.assertEqual(threads.joined(letter(5, 9)), (2,))

    def test_joined_changes_nothing(self):
        threads = Threads.of([letter(5, 9), letter(7, 2)])
        before = told(threads)
        threads.joined(letter(1, 5, 7, 30))
        self.assertEqual(told(threads), before)
        self.assertIs(threads.name_of(30), None)


class Container(unittest.TestCase):
    def test_empty(self):
        threads = Threads()
        self.assertEqual((len(threads), list(threads), threads.names(), threads.summary()), (0, [], (), []))
        self.assertIs(threads.name_of(1), None)

    def test_iteration_is_in_order_of_coming(self):
        threads = Threads.of([letter(5, 9), letter(2), letter(9), letter(5, 9), letter(3)])
        self.assertEqual(list(threads), [5, 2, 9, 3])
        self.assertEqual(len(threads), 4)

    def test_kinds_of_values(self):
        threads = Threads.of([letter(5, 9)])
        for value in (threads.members(5), threads.absent(5), threads.names(), threads.joined(letter(5, 9))):
            self.assertIsInstance(value, tuple)
        found = threads.summary()
        self.assertIsInstance(found, list)
        found.clear()
        self.assertEqual(len(threads.summary()), 1)
        self.assertIs(5 in threads, True)
        self.assertIs(9 in threads, False)

    def test_equality(self):
        letters = [letter(5, 9), letter(2), letter(9)]
        threads = Threads.of(letters)
        self.assertIs(threads == Threads.of(letters[::-1]), True)
        self.assertIs(threads != Threads.of(letters[::-1]), False)
        self.assertIs(threads == Threads.of(letters[:2]), False)
        self.assertIs(threads == Threads.of(letters[:2] + [letter(9, person="c")]), False)
        self.assertIs(Threads.of([letter(5, 9, 2)]) == Threads.of([letter(5, 2, 9)]), False)
        self.assertIs(Threads() == Threads(), True)
        for other in (None, [5, 2, 9], threads.summary(), 0):
            self.assertIs(threads == other, False)
        self.assertIs(Threads() == [], False)


class AtRandom(unittest.TestCase):
    def test_threads_are_as_in_the_model(self):
        rng = random.Random(6)
        for _ in range(200):
            most = rng.randint(1, 14)
            letters = random_letters(rng, most, rng.randint(0, most))
            threads = Threads()
            for at, each in enumerate(letters):
                before = threads_of(letters[:at])
                met = {min(before[number]) for number in (each.number, *each.answers) if number in before}
                self.assertEqual(threads.joined(each), tuple(sorted(met)))
                self.assertIs(threads.put(each), True)
                self.check(threads, letters[:at + 1], most)
            rng.shuffle(letters)
            self.assertEqual(threads, Threads.of(letters))
            self.assertEqual(told(threads), told(Threads.of(letters)))

    def check(self, threads, letters, most):
        model = threads_of(letters)
        come = {letter.number: letter for letter in letters}
        self.assertEqual(list(threads), list(come))
        for number in range(1, most + 2):
            thread = model.get(number, ())
            self.assertEqual(threads.name_of(number), min(thread, default=None))
            self.assertEqual(threads.members(number), tuple(sorted(each for each in thread if each in come)))
            self.assertEqual(threads.absent(number), tuple(sorted(each for each in thread if each not in come)))
            self.assertEqual(threads.letter_at(number), come.get(number))
            self.assertEqual(number in threads, number in come)
        names = sorted({min(thread) for thread in model.values()})
        self.assertEqual(threads.names(), tuple(names))
        self.assertEqual(threads.summary(), [(name, threads.members(name), threads.absent(name)) for name in names])

    def test_letters_that_come_again(self):
        rng = random.Random(7)
        for _ in range(100):
            letters = random_letters(rng, 10, 6)
            self.assertEqual(told(Threads.of(letters + letters[::-1])), told(Threads.of(letters)))
            other = random_letter(rng, letters[0].number, 20)
            threads = Threads.of(letters)
            before = told(threads)
            if other != letters[0]:
                with self.assertRaises(Clash):
                    threads.put(other)
            self.assertEqual(told(threads), before)


class Thousands(unittest.TestCase):
    def test_a_thread_of_thousands(self):
        many = 6000
        for order in (1, -1):
            letters = [letter(number, number - 1) for number in range(2, many + 1)][::order]
            threads = Threads.of(letters)
            self.assertEqual(threads.names(), (1,))
            self.assertEqual([threads.name_of(number) for number in range(1, many + 1)], [1] * many)
            self.assertEqual(threads.members(many), tuple(range(2, many + 1)))
            self.assertEqual(threads.absent(3), (1,))
            self.assertEqual(len(threads), many - 1)

    def test_thousands_of_threads(self):
        many = 5000
        threads = Threads.of([letter(2 * number, 2 * number + 1) for number in range(1, many + 1)])
        self.assertEqual(len(threads.summary()), many)
        self.assertEqual(threads.summary()[9], (20, (20,), (21,)))

    def test_thousands_in_random_order(self):
        letters = [letter(number, number // 2) for number in range(2, 4001)]
        random.Random(8).shuffle(letters)
        threads = Threads.of(letters)
        self.assertEqual(threads.summary(), [(1, tuple(range(2, 4001)), (1,))])


if __name__ == "__main__":
    unittest.main()
