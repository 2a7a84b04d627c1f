"""Reading letters: [10], [11], [12]."""

import random
import unittest

from filedalike.errors import MailError
from filedalike.headrows import BadRow, read_letter, read_letters, written_letters
from filedalike.letters import Letter

BIG = 10 ** 30
FULL = Letter(
    BIG, "at", "at", answers=(BIG - 1, 1, 2, 3, 4, 5, 6, 7), subject=["at"] * 8, words=["abcdefgh"] * 40
)


def text(*rows):
    return "\n".join(rows)


class RowsCase(unittest.TestCase):
    def wrong(self, row, told, read=read_letter):
        with self.assertRaises(BadRow, msg=repr(told)) as caught:
            read(told)
        self.assertEqual(caught.exception.row, row, repr(told))
        self.assertIsInstance(caught.exception, MailError)

    def right(self, told, letter):
        self.assertEqual(read_letter(told), letter)


class ReadLetter(RowsCase):
    def test_a_bare_letter(self):
        self.right(text("number: 1", "from: a at b"), Letter(1, "a", "b"))
        self.assertIsInstance(read_letter("number: 1\nfrom: a at b"), Letter)

    def test_fields_stand_in_any_order(self):
        letter = Letter(1, "a", "b", answers=(3, 2), subject=("s", "t"), words=("w",))
        heads = ["number: 1", "from: a at b", "answers: 3 2", "subject: s t"]
        for order in ((0, 1, 2, 3), (3, 2, 1, 0), (2, 0, 3, 1), (1, 3, 0, 2), (2, 3, 1, 0)):
            self.right(text(*[heads[at] for at in order], "", "w"), letter)

    def test_continuations_of_every_field(self):
        rows = ["from: a", " at", " b", "answers: 3", " 2 4", " 5", "subject: s", " t", "number: 1", "", "w v", "u"]
        letter = Letter(1, "a", "b", answers=(3, 2, 4, 5), subject=("s", "t"), words=("w", "v", "u"))
        self.right(text(*rows), letter)

    def test_rows_may_be_long(self):
        letter = Letter(9, "a", "b", answers=tuple(range(1, 9)), subject=tuple("abcdefgh"), words=("w",) * 40)
        rows = ["number: 9", "from: a at b", "answers: 1 2 3 4 5 6 7 8", "subject: a b c d e f g h", "",
                " ".join("w" * 40)]
        self.right(text(*rows), letter)

    def test_persons_and_houses_named_at(self):
        self.right(text("number: 1", "from: at at b"), Letter(1, "at", "b"))
        self.right(text("number: 1", "from: a at at"), Letter(1, "a", "at"))
        self.right(text("number: 1", "from: at at at"), Letter(1, "at", "at"))

    def test_fields_may_be_words_of_the_form(self):
        letter = Letter(1, "number", "from", subject=("answers", "subject"), words=("from", "number"))
        self.right(letter.written(), letter)

    def test_written_letters_are_read(self):
        for letter in (FULL, Letter(1, "a", "b"), Letter(5, "a", "b", answers=(BIG,)),
                       Letter(5, "a", "b", words=["w"])):
            self.right(letter.written(), letter)

    def test_letters_divided_at_random(self):
        rng = random.Random(1)
        for _ in range(300):
            self.check_divided(rng)

    def check_divided(self, rng):
        number = rng.choice([1, 7, 10 ** 9, BIG])
        others = [each for each in (2, 3, 5, 8, 13, 21, 34, BIG - 5, 10 ** 29) if each != number]
        letter = Letter(
            number, rng.choice(["at", "ann"]), rng.choice(["at", "oak"]),
            answers=rng.sample(others, rng.randint(0, 8)),
            subject=[rng.choice(["at", "x", "abcdefgh"]) for _ in range(rng.randint(0, 8))],
            words=[rng.choice(["w", "from"]) for _ in range(rng.randint(0, 40))],
        )
        fields = [("number", [number]), ("from", [letter.person, "at", letter.house])]
        fields += [("answers", letter.answers)] if letter.answers else []
        fields += [("subject", letter.subject)] if letter.subject else []
        rng.shuffle(fields)
        rows = []
        for field, items in fields:
            parts = self.divided(rng, items)
            rows += [f"{field}: {parts[0]}"] + [f" {part}" for part in parts[1:]]
        if letter.words:
            rows += [""] + self.divided(rng, letter.words)
        self.right(text(*rows), letter)
        self.right(letter.written(), letter)

    @staticmethod
    def divided(rng, items):
        parts = [[str(items[0])]]
        for item in items[1:]:
            if rng.random() < 0.4:
                parts.append([])
            parts[-1].append(str(item))
        return [" ".join(part) for part in parts]


class WrongRows(RowsCase):
    def test_rows_without_a_form(self):
        rows = (
            "number 2", "number:2", "number:  2", "number: 2 ", "number: ", "number:", " number: 2", "Number: 2",
            "subject: s  t", "subject: s t ", "subject:  s", "subject: S", "subject: abcdefghi", "subject: s,t",
            "subject: s\tt", "subject: s\r", "other: x", "x", ": x", ": ", ":", "  x", " ", "  ", " X", " x ", " x  y",
            "answers: 0", "answers: 02", "answers: " + "1" * 32, "answers: 2a", "answers: -1", "answers: +1",
            "answers: 1.0", "answers: \u0662", "answers: 1_0", "subject: s: t", "subject: \u00e4", "===",
        )
        for row in rows:
            self.wrong(3, text("from: a at b", "answers: 3", row, "number: 1"))

    def test_a_number_row_without_a_form(self):
        for row in ("number: 01", "number: 0", "number: " + "1" * 32, "number: 1 ", "number:1", "number:",
                    "numbers: 1"):
            self.wrong(1, text(row, "from: a at b"))
            self.wrong(2, text("from: a at b", row))

    def test_a_continuation_in_the_first_row(self):
        self.wrong(1, text(" 1", "number: 1", "from: a at b"))
        self.wrong(1, " x")

    def test_a_field_that_is_repeated(self):
        self.wrong(3, text("number: 1", "from: a at b", "number: 1"))
        self.wrong(2, text("subject: s", "subject: t", "number: 1", "from: a at b"))
        self.wrong(4, text("number: 1", "answers: 2", " 3", "answers: 4", "from: a at b"))
        self.wrong(3, text("from: a at b", "number: 1", "from: a at b"))

    def test_empty_rows(self):
        self.wrong(3, text("number: 1", "from: a at b", ""))
        self.wrong(4, text("number: 1", "from: a at b", "", ""))
        self.wrong(5, text("number: 1", "from: a at b", "", "w", ""))
        self.wrong(5, text("number: 1", "from: a at b", "", "w", "", "v"))
        self.wrong(2, text("number: 1", ""))

    def test_the_empty_text_and_a_leading_empty_row(self):
        self.wrong(1, "")
        self.wrong(0, text("", "w"))
        self.wrong(0, text("", "w v", "u"))
        self.wrong(2, text("", ""))
        self.wrong(2, text("", "W"))
        self.wrong(2, text("", "number: 1"))

    def test_wrong_body_rows(self):
        for row in ("W", "w  v", " w", "w ", "1", "w 1", "abcdefghi", "subject: s", "w\r", "w,v"):
            self.wrong(5, text("number: 1", "from: a at b", "", "w", row))
            self.wrong(4, text("number: 1", "from: a at b", "", row, "w"))

    def test_rows_come_ahead_of_fields(self):
        self.wrong(3, text("number: x", "from: a", "subject: S"))
        self.wrong(4, text("number: x", "from: a", "", "W"))
        self.wrong(1, text("x: 1", "number: x"))
        self.wrong(2, text("answers: x", "X"))
        self.wrong(3, text("number: x", "from: a", ""))

    def test_missing_fields(self):
        self.wrong(0, "number: 1")
        self.wrong(0, "from: a at b")
        self.wrong(0, "subject: s")
        self.wrong(0, text("answers: 2", "subject: s", "", "w"))

    def test_wrong_numbers(self):
        for items in ("1 2", "x", "1 x", "x 1", "1" + "0" * 29 + "1", "9" * 31):
            self.wrong(2, text("from: a at b", f"number: {items}"))
        self.wrong(1, text("number: 1", " 2", "from: a at b"))

    def test_wrong_senders(self):
        for items in ("a", "a at", "a at b c", "a in b", "at b", "1 at b", "a at 1", "a 1 b", "at", "at at", "a b at"):
            self.wrong(1, text(f"from: {items}", "number: 1"))
        self.wrong(2, text("number: 1", "from: a", " at b", " c"))

    def test_wrong_answers(self):
        for items in ("x", "2 x", "x 2", "1", "2 1", "2 2", "2 3 2", "2 3 4 5 6 7 8 9 10", "9" * 31):
            self.wrong(2, text("number: 1", f"answers: {items}", "from: a at b"))
        self.wrong(2, text("number: 1", "answers: 2", " 3", " 2", "from: a at b"))
        self.wrong(1, text("answers: 2 1", "number: 1", "from: a at b"))

    def test_wrong_subjects(self):
        for items in ("1", "s 1", "1 s", "a b c d e f g h i"):
            self.wrong(3, text("number: 1", "from: a at b", f"subject: {items}"))
        self.wrong(3, text("number: 1", "from: a at b", "subject: a b c d", " e f g h", " i"))

    def test_fields_are_checked_in_order(self):
        number, sender, answers, subject = "number: x", "from: a", "answers: x", "subject: 1"
        self.wrong(4, text(subject, answers, sender, number))
        self.wrong(0, text(subject, answers, sender))
        self.wrong(3, text(subject, answers, sender, "number: 1"))
        self.wrong(3, text(subject, answers, "number: x"))
        self.wrong(0, text(subject, answers, "number: 1"))
        self.wrong(2, text(subject, answers, "from: a at b", "number: 1"))
        self.wrong(1, text(subject, "answers: 2", "from: a at b", "number: 1"))

    def test_too_many_words_come_last(self):
        head = ["number: 1", "from: a at b", ""]
        self.wrong(9, text(*head, *["w w w w w w w w"] * 5, "w"))
        self.wrong(4, text(*head, " ".join("w" * 41), "w"))
        self.wrong(5, text(*head, " ".join("w" * 39), "w w", "w w"))
        self.wrong(6, text(*head, " ".join("w" * 39), "w", "w", "w"))
        self.wrong(5, text(*head, " ".join("w" * 41), "W"))
        self.wrong(1, text("number: x", "from: a at b", "", " ".join("w" * 41)))
        self.wrong(0, text("from: a at b", "", " ".join("w" * 41)))
        self.assertEqual(read_letter(text(*head, " ".join("w" * 40))).words, ("w",) * 40)

    def test_numerals_of_31_digits(self):
        self.assertEqual(read_letter(text("number: 1" + "0" * 30, "from: a at b")).number, BIG)
        self.wrong(1, text("number: 2" + "0" * 30, "from: a at b"))
        self.wrong(3, text("number: 1", "from: a at b", "answers: 2" + "0" * 30))
        self.wrong(3, text("number: 1", "from: a at b", "answers: 1" + "0" * 31))
        self.wrong(2, text("number: 9" + "0" * 30, "from: A"))
        self.wrong(1, text("number: x", "from: a at b", "answers: 2" + "0" * 30))
        self.wrong(3, text("number: x", "from: a at b", "answers: 2" + "0" * 31))


class ManyLetters(RowsCase):
    def wrong(self, row, told, read=read_letters):
        super().wrong(row, told, read)

    def test_written_letters(self):
        first, second = Letter(1, "a", "b", words=["w"]), Letter(2, "a", "b", answers=[1])
        self.assertEqual(written_letters([]), "")
        self.assertEqual(written_letters([first]), first.written())
        self.assertEqual(written_letters([second, first]), second.written() + "\n===\n" + first.written())
        self.assertEqual(written_letters((first, first)), first.written() + "\n===\n" + first.written())

    def test_letters_are_read_in_order(self):
        letters = [FULL, Letter(1, "a", "b"), Letter(1, "a", "c"), FULL, Letter(2, "a", "b", words=["w"])]
        self.assertEqual(read_letters(written_letters(letters)), letters)
        self.assertEqual(read_letters(written_letters(letters[:1])), letters[:1])
        self.assertIsInstance(read_letters(written_letters(letters)), list)

    def test_the_empty_text_has_no_letters(self):
        self.assertEqual(read_letters(""), [])
        found = read_letters("")
        found.append(1)
        self.assertEqual(read_letters(""), [])

    def test_rows_are_counted_from_the_beginning(self):
        good = text("number: 1", "from: a at b", "", "w")
        self.wrong(7, text(good, "===", "number: 1", "from: A"))
        self.wrong(6, text(good, "===", "number: x", "from: a at b"))
        self.wrong(12, text(good, "===", good, "===", "number: 1", "from: a"))
        self.wrong(8, text(good, "===", "number: 1", "from: a at b", ""))
        self.wrong(8, text(good, "===", "number: 1", "from: a at b", "", "===", good))
        self.wrong(9, text(good, "===", "number: 1", "from: a at b", "", " ".join("w" * 41)))

    def test_a_missing_field_is_the_first_row_of_its_part(self):
        good = text("number: 1", "from: a at b")
        self.wrong(1, "number: 1")
        self.wrong(4, text(good, "===", "subject: s", "number: 1"))
        self.wrong(4, text(good, "===", "", "w"))
        self.wrong(4, text(good, "===", "from: a at b", "===", good))

    def test_parts_without_a_row(self):
        good = text("number: 1", "from: a at b")
        self.wrong(4, text(good, "==="))
        self.wrong(1, "===")
        self.wrong(1, text("===", good))
        self.wrong(4, text(good, "===", "===", good))
        self.wrong(7, text(good, "===", good, "==="))
        self.wrong(4, text(good, "===", ""))
        self.wrong(1, text("", "===", good))

    def test_the_first_wrong_part_counts(self):
        good = text("number: 1", "from: a at b")
        self.wrong(2, text("number: 1", "from: a", "===", "X"))
        self.wrong(1, text("number: 1", "===", "X"))
        self.wrong(1, text("number: x", "from: a at b", "==="))

    def test_only_the_row_itself_separates(self):
        good = text("number: 1", "from: a at b")
        for row in ("====", "==", "=== ", " ==="):
            self.wrong(3, text(good, row, good))
        self.wrong(3, text(good, "===", good), read_letter)

    def test_many_letters(self):
        letters = [Letter(at, "a", "b", words=["w"] * (at - at // 41 * 41)) for at in range(1, 2001)]
        self.assertEqual(read_letters(written_letters(letters)), letters)


if __name__ == "__main__":
    unittest.main()
