"""Letters and their texts: [8], [9]."""

import unittest

from filedalike.errors import MailError
from filedalike.letters import BadLetter, Letter

BIG = 10 ** 30


class Making(unittest.TestCase):
    def wrong(self, field, *values, **named):
        with self.assertRaises(BadLetter) as caught:
            Letter(*values, **named)
        self.assertEqual(caught.exception.field, field)
        self.assertIsInstance(caught.exception, MailError)

    def test_attributes(self):
        letter = Letter(4, "ann", "oak", answers=[9, 2], subject=["b", "a", "b"], words=["x", "x"])
        self.assertEqual((letter.number, letter.person, letter.house), (4, "ann", "oak"))
        self.assertEqual(letter.answers, (9, 2))
        self.assertEqual(letter.subject, ("b", "a", "b"))
        self.assertEqual(letter.words, ("x", "x"))
        self.assertEqual(letter.sender, "ann at oak")
        for value in (letter.answers, letter.subject, letter.words):
            self.assertIsInstance(value, tuple)

    def test_defaults_are_empty_tuples(self):
        letter = Letter(1, "a", "b")
        self.assertEqual((letter.answers, letter.subject, letter.words), ((), (), ()))

    def test_the_last_three_are_named(self):
        with self.assertRaises(TypeError):
            Letter(1, "a", "b", (2,))

    def test_lists_are_copied(self):
        answers, subject, words = [2], ["s"], ["w"]
        letter = Letter(1, "a", "b", answers=answers, subject=subject, words=words)
        answers.append(3)
        subject.append("t")
        words.clear()
        self.assertEqual((letter.answers, letter.subject, letter.words), ((2,), ("s",), ("w",)))

    def test_bounds_that_are_kept(self):
        Letter(BIG, "abcdefgh", "z", answers=(1, 2, 3, 4, 5, 6, 7, BIG - 1), subject=["a"] * 8, words=("w",) * 40)
        Letter(1, "at", "at", answers=[BIG])

    def test_wrong_numbers(self):
        for number in (0, -1, BIG + 1, True, False, None, "1", 1.0, [1]):
            self.wrong("number", number, "a", "b")

    def test_wrong_persons_and_houses(self):
        for name in ("", "A", "abcdefghi", "a b", None, 1, ["a"]):
            self.wrong("person", 1, name, "b")
            self.wrong("house", 1, "a", name)

    def test_wrong_answers(self):
        wrong = (
            [0], [BIG + 1], [True], [2, 2], [1], [2, 1], ["2"], [2, None], list(range(2, 11)), None, 2, "2",
            {2: 3}, {2, 3}, range(2, 4), [[2]], [[2], [2]],
        )
        for answers in wrong:
            self.wrong("answers", 1, "a", "b", answers=answers)
            if isinstance(answers, list):
                self.wrong("answers", 1, "a", "b", answers=tuple(answers))

    def test_true_is_no_answer_of_another_letter(self):
        self.wrong("answers", 5, "a", "b", answers=[True])
        self.wrong("answers", 5, "a", "b", answers=[3, False])

    def test_wrong_subjects_and_words(self):
        for names in (["A"], [""], ["a", None], [1], None, "ab", {"a": 1}, [["a"]], ("a", "b c")):
            self.wrong("subject", 1, "a", "b", subject=names)
            self.wrong("words", 1, "a", "b", words=names)
        self.wrong("subject", 1, "a", "b", subject=["a"] * 9)
        self.wrong("words", 1, "a", "b", words=["a"] * 41)

    def test_the_first_wrong_field_is_named(self):
        fields = ["number", "person", "house", "answers", "subject", "words"]
        right = [1, "a", "b", (), (), ()]
        wrong = [0, "", "", (0,), ("",), ("",)]
        for first in range(6):
            for second in range(first, 6):
                values = [wrong[at] if at in (first, second) else right[at] for at in range(6)]
                self.wrong(
                    fields[first], *values[:3], answers=values[3], subject=values[4], words=values[5]
                )


class Equality(unittest.TestCase):
    def test_equal_attributes_make_equal_letters(self):
        first = Letter(1, "a", "b", answers=[2, 3], subject=["s"], words=["w"])
        second = Letter(1, "a", "b", answers=(2, 3), subject=("s",), words=("w",))
        self.assertIs(first == second, True)
        self.assertIs(first != second, False)

    def test_each_attribute_counts(self):
        told = {"answers": (2, 3), "subject": ("s", "t"), "words": ("w", "v")}
        first = Letter(1, "a", "b", **told)
        others = [
            Letter(4, "a", "b", **told), Letter(1, "c", "b", **told), Letter(1, "a", "c", **told),
            Letter(1, "a", "b", **dict(told, answers=(3, 2))), Letter(1, "a", "b", **dict(told, answers=(2,))),
            Letter(1, "a", "b", **dict(told, subject=("t", "s"))), Letter(1, "a", "b", **dict(told, subject=("s",))),
            Letter(1, "a", "b", **dict(told, words=("v", "w"))), Letter(1, "a", "b", **dict(told, words=("w",))),
        ]
        for other in others:
            self.assertIs(first == other, False, other.written())

    def test_other_objects_are_unequal(self):
        letter = Letter(1, "a", "b")
        for other in (None, 1, "a at b", letter.written(), (1, "a", "b", (), (), ())):
            self.assertIs(letter == other, False)


class Written(unittest.TestCase):
    def check(self, letter, rows):
        self.assertEqual(letter.written(), "\n".join(rows))
        self.assertEqual(str(letter), "\n".join(rows))

    def test_a_bare_letter(self):
        self.check(Letter(1, "a", "b"), ["number: 1", "from: a at b"])
        self.check(Letter(BIG, "at", "at"), ["number: 1" + "0" * 30, "from: at at at"])

    def test_answers_stand_three_to_a_row(self):
        head = ["number: 20", "from: a at b"]
        rows = ["answers: 9 8 7", " 6 5 4", " 3 2"]
        letter = Letter(20, "a", "b", answers=(9, 8, 7, 6, 5, 4, 3, 2))
        self.check(letter, head + rows)
        self.check(Letter(20, "a", "b", answers=(9, 8, 7)), head + rows[:1])
        self.check(Letter(20, "a", "b", answers=(9, 8, 7, 6)), head + ["answers: 9 8 7", " 6"])
        self.check(Letter(20, "a", "b", answers=(9,)), head + ["answers: 9"])

    def test_the_subject_stands_four_to_a_row(self):
        head = ["number: 20", "from: a at b"]
        self.check(Letter(20, "a", "b", subject=list("hgfedcba")), head + ["subject: h g f e", " d c b a"])
        self.check(Letter(20, "a", "b", subject=list("hgfe")), head + ["subject: h g f e"])
        self.check(Letter(20, "a", "b", subject=list("hgfed")), head + ["subject: h g f e", " d"])

    def test_words_stand_eight_to_a_row_behind_an_empty_row(self):
        head = ["number: 20", "from: a at b"]
        self.check(Letter(20, "a", "b", words=["w"]), head + ["", "w"])
        self.check(Letter(20, "a", "b", words=list("abcdefgh")), head + ["", "a b c d e f g h"])
        self.check(Letter(20, "a", "b", words=list("abcdefghi")), head + ["", "a b c d e f g h", "i"])
        self.check(Letter(20, "a", "b", words=["w"] * 40), head + [""] + ["w w w w w w w w"] * 5)

    def test_all_fields_in_order(self):
        letter = Letter(7, "ann", "oak", answers=(9, 2), subject=("offer", "new"), words=("hi", "hi"))
        rows = ["number: 7", "from: ann at oak", "answers: 9 2", "subject: offer new", "", "hi hi"]
        self.check(letter, rows)


if __name__ == "__main__":
    unittest.main()
