"""Own tests and kinds: [13] to [18]."""

import random
import unittest
from itertools import product

from filedalike.errors import MailError
from filedalike.kinds import (
    BadTest, HouseTest, LengthTest, NoKind, OwnTest, SubjectTest, WordTest, barred, house_of, kind_of, kinds,
    kinds_of_sender, letter_of, read_test, sender_kind, sender_kinds,
)
from filedalike.letters import BadLetter, Letter
from tests.models import ALPHABET, least_bar, possible_kinds

TEXTS = [
    "word x", "word x", "word y", "word z", "word a", "words 1", "words 2", "words 3", "words 40", "subject x",
    "subject y", "subject x", "house elm", "house elm oak", "house oak", "house a b elm", "house a",
]


def tests_of(*texts):
    return [read_test(text) for text in texts]


def random_tests(rng):
    return tests_of(*[rng.choice(TEXTS) for _ in range(rng.randint(0, 4))])


class Tests(unittest.TestCase):
    def test_holds(self):
        letter = Letter(1, "ann", "oak", subject=("s", "t"), words=("w", "v", "w"))
        told = {
            "word w": True, "word v": True, "word s": False, "word t": False, "subject s": True, "subject t": True,
            "subject w": False, "house oak": True, "house elm oak": True, "house elm": False, "house ann": False,
            "words 1": True, "words 3": True, "words 4": False,
        }
        for text, holds in told.items():
            self.assertIs(read_test(text).holds(letter), holds, text)
        self.assertIs(LengthTest(1).holds(Letter(1, "a", "b", subject=("s",))), False)
        self.assertIs(LengthTest(40).holds(Letter(1, "a", "b", words=("w",) * 40)), True)

    def test_written_and_lead(self):
        cases = (
            (WordTest("offer"), "word offer", "word"), (SubjectTest("offer"), "subject offer", "subject"),
            (HouseTest("oak", "elm"), "house elm oak", "house"), (HouseTest("oak"), "house oak", "house"),
            (LengthTest(10), "words 10", "words"),
        )
        for test, text, lead in cases:
            self.assertEqual(test.written(), text)
            self.assertEqual(test.LEAD, lead)
            self.assertIsInstance(test, OwnTest)
        for made, lead in ((WordTest, "word"), (SubjectTest, "subject"), (HouseTest, "house"), (LengthTest, "words")):
            self.assertEqual(made.LEAD, lead)
            self.assertTrue(issubclass(made, OwnTest))
        self.assertTrue(hasattr(OwnTest, "LEAD"))

    def test_attributes(self):
        self.assertEqual(WordTest("w").word, "w")
        self.assertEqual(SubjectTest("w").word, "w")
        self.assertEqual(HouseTest("oak", "elm", "ash").houses, ("ash", "elm", "oak"))
        self.assertEqual(LengthTest(7).least, 7)

    def test_equality(self):
        self.assertIs(WordTest("a") == WordTest("a"), True)
        self.assertIs(HouseTest("a", "b") == HouseTest("b", "a"), True)
        self.assertIs(HouseTest("a", "b") != HouseTest("b", "a"), False)
        unlike = [WordTest("a"), WordTest("b"), SubjectTest("a"), HouseTest("a"), HouseTest("a", "b"), LengthTest(1)]
        for first in range(len(unlike)):
            for second in range(len(unlike)):
                self.assertIs(unlike[first] == unlike[second], first == second)
            for other in (None, "word a", unlike[first].written(), 1):
                self.assertIs(unlike[first] == other, False)

    def test_bounds_that_are_kept(self):
        WordTest("abcdefgh")
        self.assertEqual(HouseTest(*"fedcba").houses, tuple("abcdef"))
        self.assertEqual((LengthTest(1).least, LengthTest(40).least), (1, 40))

    def test_bad_tests(self):
        def bad(told, made, *values):
            with self.assertRaises(BadTest) as caught:
                made(*values)
            self.assertEqual(caught.exception.told, told)
            self.assertIs(caught.exception.told.__class__, told.__class__)
            self.assertIsInstance(caught.exception, MailError)

        for value in ("", "A", "abcdefghi", "a b", None, 1, True, ["a"], ("a",), b"a"):
            bad(value, WordTest, value)
            bad(value, SubjectTest, value)
            bad((value,), HouseTest, value)
            bad(("a", value), HouseTest, "a", value)
        bad((), HouseTest)
        bad(("b", "a", "b"), HouseTest, "b", "a", "b")
        bad(tuple("gfedcba"), HouseTest, *"gfedcba")
        for value in (0, 41, -1, True, False, None, "1", 1.0, [1], 10 ** 40):
            bad(value, LengthTest, value)


class ReadTest(unittest.TestCase):
    def test_written_tests_are_read(self):
        made = [WordTest("word"), SubjectTest("subject"), HouseTest("house"), HouseTest(*"abcdef")]
        made += [LengthTest(least) for least in range(1, 41)]
        for test in made:
            found = read_test(test.written())
            self.assertEqual(found, test)
            self.assertIs(found.__class__, test.__class__)

    def test_houses_in_any_order(self):
        self.assertEqual(read_test("house oak elm"), HouseTest("elm", "oak"))
        self.assertEqual(read_test("house oak elm").houses, ("elm", "oak"))

    def test_other_strings(self):
        wrong = (
            "", " ", "word", "word ", "word A", "word a b", "word  a", " word a", "word a ", "word 1", "word abcdefghi",
            "words", "words ", "words 0", "words 41", "words 01", "words a", "words 1 2", "words  1", "words 1 ",
            "words -1", "words +1", "words 1.0", "words " + "1" * 31, "words " + "1" * 32, "words \u0661", "words 1_0",
            "house", "house ", "house a a", "house a b a", "house  a", "house a  b", "house a ", "house A", "house 1",
            "house a b c d e f g", "subject", "subject a b", "Word a", "length 3", "a", "word\ta", "word a\n",
            "house a,b",
        )
        for text in wrong:
            with self.assertRaises(BadTest, msg=repr(text)) as caught:
                read_test(text)
            self.assertEqual(caught.exception.told, text)


class Kinds(unittest.TestCase):
    def test_kind_of(self):
        tests = tests_of("word w", "subject w", "house oak", "words 2")
        letter = Letter(1, "a", "oak", words=("w",))
        self.assertEqual(kind_of(tests, letter), (True, False, True, False))
        self.assertEqual(kind_of(tuple(tests), Letter(1, "a", "b", subject=("w",), words=("v", "v"))),
                         (False, True, False, True))
        self.assertEqual(kind_of([], letter), ())
        self.assertEqual(kind_of(tests_of("word w", "word w"), letter), (True, True))

    def test_kinds_that_are_told(self):
        self.assertEqual(kinds([]), [()])
        self.assertEqual(kinds(()), [()])
        self.assertEqual(kinds(tests_of("word offer")), [(False,), (True,)])
        self.assertEqual(kinds(tests_of("word offer", "words 1")), [(False, False), (False, True), (True, True)])
        self.assertEqual(kinds(tests_of("words 3", "words 5")), [(False, False), (True, False), (True, True)])
        self.assertEqual(kinds(tests_of("house elm oak", "house elm")), [(False, False), (True, False), (True, True)])
        self.assertEqual(kinds(tests_of("subject x", "subject x")), [(False, False), (True, True)])
        self.assertEqual(len(kinds(tests_of("subject x", "word x"))), 4)

    def test_kinds_at_random(self):
        rng = random.Random(2)
        for _ in range(250):
            tests = random_tests(rng)
            found = kinds(tests)
            self.assertEqual(found, possible_kinds(tests), [test.written() for test in tests])
            found.clear()
            self.assertEqual(kinds(tuple(tests)), possible_kinds(tests))

    def test_words_and_lengths_together(self):
        tests = tests_of("word a", "word b", "word c", "words 3")
        self.assertNotIn((True, True, True, False), kinds(tests))
        self.assertIn((True, True, False, False), kinds(tests))
        tests = tests_of("word a", "words 40")
        self.assertEqual(len(kinds(tests)), 4)

    def test_barred(self):
        tests = tests_of("word a", "word b", "words 2", "words 1")
        self.assertIs(barred(tests, (True, True, True, True)), None)
        self.assertEqual(barred(tests, (True, True, False, True)), (0, 1, 2))
        self.assertEqual(barred(tests, (True, True, False, False)), (0, 3))
        self.assertEqual(barred(tests, (False, True, True, False)), (1, 3))
        self.assertEqual(barred(tests, (False, False, True, False)), (2, 3))
        houses = tests_of("house a b", "house b c", "house b", "house d")
        self.assertEqual(barred(houses, (True, True, False, False)), (0, 1, 2))
        self.assertEqual(barred(houses, (True, True, True, True)), (0, 3))
        self.assertIs(barred([], ()), None)

    def test_barred_at_random(self):
        rng = random.Random(3)
        for _ in range(120):
            tests = random_tests(rng)
            possible = possible_kinds(tests)
            for kind in product((False, True), repeat=len(tests)):
                told = [test.written() for test in tests], kind
                self.assertEqual(barred(tests, kind), least_bar(tests, kind), told)
                self.assertEqual(barred(tuple(tests), kind) is None, kind in possible, told)


class Senders(unittest.TestCase):
    def test_sender_kind(self):
        tests = tests_of("house elm oak", "word w", "house oak", "words 2")
        self.assertEqual(sender_kind(tests, "oak"), (True, None, True, None))
        self.assertEqual(sender_kind(tests, "elm"), (True, None, False, None))
        self.assertEqual(sender_kind(tuple(tests), "ash"), (False, None, False, None))
        self.assertEqual(sender_kind([], "oak"), ())
        self.assertIs(sender_kind(tests, "oak")[1], None)

    def test_sender_kinds(self):
        self.assertEqual(sender_kinds([]), [()])
        self.assertEqual(sender_kinds(tests_of("word w", "words 2")), [(None, None)])
        tests = tests_of("house elm oak", "word w", "house oak")
        self.assertEqual(sender_kinds(tests), [(False, None, False), (True, None, False), (True, None, True)])
        found = sender_kinds(tests)
        found.clear()
        self.assertEqual(len(sender_kinds(tests)), 3)

    def test_four_house_tests_of_six_houses(self):
        tests = [HouseTest(*ALPHABET[at:at + 6]) for at in (0, 6, 12, 18)]
        self.assertEqual(len(sender_kinds(tests)), 5)
        self.assertEqual(house_of(tests, (False,) * 4), "y")

    def test_kinds_of_sender(self):
        tests = tests_of("house oak", "word w", "words 1")
        self.assertEqual(kinds_of_sender(tests, (True, None, None)),
                         [(True, False, False), (True, False, True), (True, True, True)])
        for other in ((True, True, None), (None, None, None), (True, None), (True, None, None, None), (),
                      (True, False, None)):
            self.assertEqual(kinds_of_sender(tests, other), [], other)
        self.assertEqual(kinds_of_sender(tests_of("house oak", "house oak"), (True, False)), [])
        self.assertEqual(kinds_of_sender([], ()), [()])

    def test_every_kind_has_one_sender_kind(self):
        rng = random.Random(4)
        for _ in range(80):
            tests = random_tests(rng)
            found = []
            for sender in sender_kinds(tests):
                here = kinds_of_sender(tests, sender)
                self.assertTrue(here)
                self.assertEqual(here, sorted(here))
                for kind in here:
                    part = tuple(entry if test.LEAD == "house" else None for test, entry in zip(tests, kind))
                    self.assertEqual(part, sender)
                found += here
                self.assertEqual(sender_kind(tests, house_of(tests, sender)), sender)
            self.assertEqual(sorted(found), possible_kinds(tests))
            self.assertEqual(sender_kinds(tests), sorted(sender_kinds(tests)))

    def test_house_of(self):
        tests = tests_of("house elm oak", "house oak")
        self.assertEqual(house_of(tests, (True, False)), "elm")
        self.assertEqual(house_of(tests, (True, True)), "oak")
        self.assertEqual(house_of(tests, (False, False)), "a")
        self.assertEqual(house_of([], ()), "a")
        self.assertEqual(house_of(tests_of("house a b"), (False,)), "c")
        self.assertEqual(house_of(tests_of("house b ash"), (True,)), "ash")
        self.assertEqual(house_of(tests_of("house a b", "house b aa"), (False, True)), "aa")
        self.assertEqual(house_of(tests_of("house abc", "word w"), (True, None)), "abc")

    def test_houses_without_the_kind(self):
        tests = tests_of("house elm oak", "house oak")
        for sender in ((False, True), (True,), (None, True), (), (True, True, None)):
            with self.assertRaises(NoKind) as caught:
                house_of(tests, sender)
            self.assertEqual(caught.exception.kind, sender)
            self.assertIsInstance(caught.exception, MailError)


class PlainLetters(unittest.TestCase):
    def test_the_plainest_letter(self):
        self.assertEqual(letter_of([], ()), Letter(1, "a", "a"))
        self.assertEqual(letter_of(tests_of("word w"), (False,)), Letter(1, "a", "a"))

    def test_words_and_subject(self):
        tests = tests_of("word w", "subject t", "word b", "subject s")
        self.assertEqual(letter_of(tests, (True,) * 4), Letter(1, "a", "a", subject=("t", "s"), words=("w", "b")))
        self.assertEqual(letter_of(tests, (False, True, True, False)),
                         Letter(1, "a", "a", subject=("t",), words=("b",)))

    def test_no_word_stands_twice(self):
        tests = tests_of("word w", "subject w", "word w", "subject w")
        self.assertEqual(letter_of(tests, (True,) * 4), Letter(1, "a", "a", subject=("w",), words=("w",)))

    def test_length_tests_ask_for_more(self):
        tests = tests_of("words 3", "word b", "word a", "words 5")
        self.assertEqual(letter_of(tests, (True, True, False, False)), Letter(1, "a", "a", words=("b", "c", "c")))
        self.assertEqual(letter_of(tests, (True, False, False, True)), Letter(1, "a", "a", words=("c",) * 5))
        self.assertEqual(letter_of(tests, (True, True, True, False)), Letter(1, "a", "a", words=("b", "a", "c")))
        self.assertEqual(letter_of(tests, (False, True, True, False)), Letter(1, "a", "a", words=("b", "a")))
        self.assertEqual(letter_of(tests_of("words 1", "word z"), (True, True)), Letter(1, "a", "a", words=("z",)))
        self.assertEqual(letter_of(tests_of("words 40"), (True,)), Letter(1, "a", "a", words=("a",) * 40))
        self.assertEqual(letter_of(tests_of("words 2", "subject a"), (True, True)),
                         Letter(1, "a", "a", subject=("a",), words=("a", "a")))

    def test_the_house(self):
        tests = tests_of("house elm oak", "word w")
        self.assertEqual(letter_of(tests, (True, False)).house, "elm")
        self.assertEqual(letter_of(tests, (True, False), house="oak").house, "oak")
        self.assertEqual(letter_of(tests, (True, False), house=None).house, "elm")
        self.assertEqual(letter_of(tests, (False, False), house="ash").house, "ash")
        self.assertEqual(letter_of(tests_of("house a"), (False,)).house, "b")

    def test_number_person_and_answers(self):
        letter = letter_of(tests_of("word w"), (True,), number=7, person="bob", house="elm", answers=[9, 2])
        self.assertEqual(letter, Letter(7, "bob", "elm", answers=(9, 2), words=("w",)))
        with self.assertRaises(TypeError):
            letter_of([], (), 7)

    def test_letters_have_their_kind(self):
        rng = random.Random(5)
        for _ in range(100):
            tests = random_tests(rng)
            for kind in possible_kinds(tests):
                letter = letter_of(tests, kind)
                self.assertEqual(kind_of(tests, letter), kind)
                self.assertEqual(letter, self.plain(tests, kind))

    def plain(self, tests, kind):
        holding = [test for test, entry in zip(tests, kind) if entry]
        words = list(dict.fromkeys(test.word for test in holding if test.LEAD == "word"))
        named = [test.word for test in tests if test.LEAD == "word"]
        more = min(word for word in ALPHABET if word not in named)
        while any(test.least > len(words) for test in holding if test.LEAD == "words"):
            words.append(more)
        sender = tuple(entry if test.LEAD == "house" else None for test, entry in zip(tests, kind))
        named = {house for test in tests if test.LEAD == "house" for house in test.houses} | set(ALPHABET)
        house = min(house for house in named if sender_kind(tests, house) == sender)
        subject = list(dict.fromkeys(test.word for test in holding if test.LEAD == "subject"))
        return Letter(1, "a", house, subject=subject, words=words)

    def test_kinds_that_are_not_possible(self):
        def none(kind, tests, **more):
            with self.assertRaises(NoKind) as caught:
                letter_of(tests, kind, **more)
            self.assertEqual(caught.exception.kind, kind)

        none((True, False), tests_of("word w", "words 1"))
        none((True, False), tests_of("house a", "house a"))
        none((True, False), tests_of("subject a", "subject a"), number=0)
        none((True,), tests_of("house elm oak"), house="ash")
        none((False,), tests_of("house elm oak"), house="oak")
        none((False,), tests_of("house elm oak"), house="oak", person="")

    def test_bad_letters(self):
        def bad(field, **more):
            with self.assertRaises(BadLetter) as caught:
                letter_of(tests_of("word w"), (True,), **more)
            self.assertEqual(caught.exception.field, field)

        bad("number", number=0)
        bad("number", number=True, person="")
        bad("person", person="")
        bad("answers", answers=[1])
        bad("answers", answers=[2, 2])

    def test_nothing_passed_is_changed(self):
        tests = tests_of("word w", "house oak elm", "words 3")
        answers = [3, 2]
        letter_of(tests, (True, True, True), answers=answers)
        kinds(tests)
        barred(tests, (True, True, False))
        sender_kinds(tests)
        self.assertEqual([test.written() for test in tests], ["word w", "house elm oak", "words 3"])
        self.assertEqual(answers, [3, 2])


if __name__ == "__main__":
    unittest.main()
