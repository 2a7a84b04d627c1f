"""Books: [30] to [36], and the methods of books."""

import random
import unittest

from filedalike.book import Book, OtherGround
from filedalike.errors import MailError
from filedalike.kinds import HouseTest, LengthTest, WordTest
from filedalike.rules import BadBook, Mode, NoRule, NotTurnable, Rule
from filedalike.strata import RingThroughLacks
from tests.models import least_ring, least_strata, random_book_text, random_ground, random_rule, rule_row

GROUND = [
    "mark new by hand", "mark hot", "mark old by hand", "standing vip", "standing odd by hand",
    "test word offer", "test house elm oak",
]


def book_of(*rows):
    return Book.read("\n".join(rows))


class BookCase(unittest.TestCase):
    def wrong(self, row, *rows):
        with self.assertRaises(BadBook, msg=repr(rows)) as caught:
            book_of(*rows)
        self.assertEqual(caught.exception.row, row, repr(rows))
        self.assertIsInstance(caught.exception, MailError)

    def wrong_rule(self, *rows):
        for row in rows:
            self.wrong(len(GROUND) + 1, *GROUND, row)
            with self.assertRaises(BadBook, msg=repr(row)) as caught:
                book_of(*GROUND).read_rule(row)
            self.assertEqual(caught.exception.row, 1)


class Reading(BookCase):
    def test_the_empty_book(self):
        book = Book.read("")
        self.assertEqual((book.marks, book.hand_marks, book.standings, book.hand_standings), ((), (), (), ()))
        self.assertEqual((book.tests, book.rules, book.ring, book.strata), ((), (), None, ()))
        self.assertEqual((book.written(), str(book), len(book), list(book)), ("", "", 0, []))
        self.assertEqual(book.layers(), [])

    def test_the_ground(self):
        book = book_of(*GROUND)
        self.assertEqual(book.marks, ("new", "hot", "old"))
        self.assertEqual(book.hand_marks, ("new", "old"))
        self.assertEqual(book.standings, ("vip", "odd"))
        self.assertEqual(book.hand_standings, ("odd",))
        self.assertEqual(book.tests, (WordTest("offer"), HouseTest("elm", "oak")))
        self.assertIsInstance(book.tests, tuple)
        self.assertEqual(book.rules, ())
        self.assertEqual(book.written(), "\n".join(GROUND))

    def test_each_group_may_be_missing(self):
        for rows in (GROUND[:3], GROUND[3:5], GROUND[5:], GROUND[:3] + GROUND[5:], GROUND[3:]):
            self.assertEqual(book_of(*rows).written(), "\n".join(rows))
        self.assertEqual(len(book_of("standing s", "rule coming standing s")), 1)
        self.assertEqual(len(book_of("mark m", "rule coming mark m")), 1)

    def test_a_rule(self):
        row = "rule coming standing odd if test 1, not test 2, thread new, not thread old, sender vip, not sender odd"
        rule = book_of(*GROUND, "rule always mark hot", row)[2]
        self.assertEqual((rule.number, rule.mode, rule.deed, rule.gift), (2, "coming", "standing", "odd"))
        self.assertEqual((rule.marks, rule.standings), (("new", "hot", "old"), ("vip", "odd")))
        self.assertEqual((rule.own, rule.thread, rule.sender), ((True, False), (True, None, False), (True, False)))
        self.assertIsInstance(rule, Rule)
        self.assertEqual(rule.written(), row)

    def test_rules_without_wishes(self):
        book = book_of(*GROUND, "rule always mark hot", "rule coming mark new", "rule coming standing vip")
        self.assertEqual([(rule.mode, rule.deed, rule.gift) for rule in book],
                         [("always", "mark", "hot"), ("coming", "mark", "new"), ("coming", "standing", "vip")])
        for rule in book:
            self.assertEqual((rule.own, rule.thread, rule.sender), ((None, None), (None,) * 3, (None, None)))

    def test_wishes_in_any_order(self):
        wishes = ["test 1", "not test 2", "not thread new", "thread old", "sender vip", "not sender odd"]
        row = "rule coming mark hot if " + ", ".join(wishes)
        rng = random.Random(15)
        for _ in range(40):
            rng.shuffle(wishes)
            book = book_of(*GROUND, "rule coming mark hot if " + ", ".join(wishes))
            self.assertEqual(book[1].written(), row)
            self.assertEqual(book, book_of(*GROUND, row))

    def test_names_like_words_of_the_form(self):
        names = ["not", "if", "by"]
        rows = ["mark not", "mark if by hand", "mark by by hand", "standing if", "standing mark by hand",
                "test word by"]
        rule = "rule coming mark if if not test 1, not thread not, thread if, not thread by, not sender if, sender mark"
        book = book_of(*rows, rule)
        self.assertEqual(book.marks, tuple(names))
        self.assertEqual(book.hand_marks, ("if", "by"))
        self.assertEqual(book[1].thread, (False, True, False))
        self.assertEqual(book[1].sender, (False, True))
        self.assertEqual(book.written(), "\n".join(rows + [rule]))
        self.assertEqual(len(book_of("mark rule", "mark thread", "rule always mark thread if thread rule")), 1)

    def test_a_mark_and_a_standing_of_one_name(self):
        book = book_of("mark a", "standing a by hand", "rule coming standing a if not thread a, sender a",
                       "rule coming mark a if thread a, not sender a")
        self.assertEqual((book.marks, book.standings, book.hand_marks, book.hand_standings),
                         (("a",), ("a",), (), ("a",)))
        self.assertEqual((book[1].thread, book[1].sender), ((False,), (True,)))
        self.assertEqual((book[2].thread, book[2].sender), ((True,), (False,)))

    def test_equal_tests_and_rules(self):
        book = book_of("mark a", "test words 3", "test words 3", "rule always mark a", "rule always mark a")
        self.assertEqual(book.tests, (LengthTest(3), LengthTest(3)))
        self.assertEqual([rule.number for rule in book.rules], [1, 2])
        self.assertIs(book[1] == book[2], True)

    def test_the_bounds_that_are_kept(self):
        rows = GROUND + ["rule coming mark hot"] * 5
        self.assertEqual(len(book_of(*rows)), 5)


class WrongRows(BookCase):
    def test_rows_without_a_form(self):
        for row in ("", " ", "x", "mark", "mark ", "mark  a", " mark a", "mark a ", "mark A", "mark abcdefghi",
                    "mark a b",
                    "mark a by", "mark a by hand ", "mark a by  hand", "mark a by Hand", "mark a hand",
                    "mark a by hand x",
                    "mark by hand", "mark a by handy", "Mark a", "marks a", "mark 1", "mark a\r", "mark\ta"):
            if row:
                self.wrong(1, row)
            self.wrong(2, "mark x", row)
            self.wrong(2, "mark x", row, "mark y")
            if row.startswith("mark"):
                self.wrong(2, "mark x", row.replace("mark", "standing", 1))

    def test_a_newline_at_the_end(self):
        self.wrong(2, "mark a", "")
        self.wrong(1, "", "")
        self.wrong(1, "", "mark a")
        self.wrong(9, *GROUND, "rule coming mark hot", "")

    def test_wrong_test_rows(self):
        for row in ("test", "test ", "test word", "test word A", "test  word a", "test word a ", "test house a a",
                    "test words 0",
                    "test words 41", "test 1", "test word a by hand", "tests word a", "test test word a",
                    "test length 2"):
            self.wrong(1, row)
            self.wrong(2, "test word x", row)

    def test_groups_in_order(self):
        mark, standing, test, rule = "mark a", "standing s", "test word w", "rule coming mark m"
        for first, second in ((standing, mark), (test, mark), (test, standing)):
            self.wrong(2, first, second)
            self.wrong(3, "mark m", first, second)
        for late in (mark, standing, test):
            self.wrong(3, "mark m", rule, late)
        self.wrong(4, "mark m", standing, test, mark)

    def test_names_a_second_time(self):
        self.wrong(2, "mark a", "mark a")
        self.wrong(3, "mark a by hand", "mark b", "mark a")
        self.wrong(2, "mark a", "mark a by hand")
        self.wrong(2, "standing a", "standing a")
        self.wrong(3, "mark a", "standing b by hand", "standing b")

    def test_the_bounds_of_the_groups(self):
        self.wrong(4, "mark a", "mark b", "mark c", "mark d")
        self.wrong(3, "standing a", "standing b", "standing c")
        self.wrong(3, "test word a", "test word a", "test word b")
        self.wrong(7, "mark a", *["rule coming mark a"] * 6)
        self.wrong(4, "mark a", "mark b", "mark c", "x")

    def test_wrong_heads_of_rules(self):
        self.wrong_rule(
            "rule", "rule ", "rule coming", "rule coming mark", "rule coming mark ", "rule coming mark xyz",
            "rule coming mark vip", "rule coming standing hot", "rule coming standing xyz", "rule always standing vip",
            "rule never mark hot", "rule coming word vip", "rule coming test vip", "rule coming standings vip",
            "rule never standing vip",
            "rule Coming mark hot", "rule coming marks hot", "rule coming test hot", "rule mark hot",
            "rule coming  mark hot", "rule coming mark  hot", " rule coming mark hot", "rule coming mark hot ",
            "rule coming mark hot hot", "rules coming mark hot", "rule coming hot", "rule coming standing 1",
            "coming mark hot",
            "", "mark hot", "mark abc", "test word a", "standing abc", "rule coming mark hot\r",
        )

    def test_wrong_wishes(self):
        wishes = (
            "", " ", "test", "test ", "test 0", "test 3", "test 01", "test +1", "test a", "test 1 ", " test 1",
            "test  1",
            "test 1 2", "not", "not ", "not not test 1", "not test", "not 1", "not  test 1", "Not test 1", "thread",
            "thread xyz",
            "thread vip", "sender hot", "sender xyz", "mark hot", "standing vip", "hot", "test 1,test 2",
            "test 1 , test 2",
            "test 1,  test 2", "test 1, ", ", test 1", "test 1,", "test 1, , test 2", "test 1 and test 2",
            "test 1; test 2",
            "test 1, x", "x, test 1", "word offer", "thread hot\r",
        )
        for wish in wishes:
            self.wrong_rule("rule coming mark hot if " + wish)
        self.wrong_rule("rule coming mark hot if", "rule coming mark hot if  test 1", "rule coming mark hot  if test 1",
                        "rule coming mark hot IF test 1", "rule coming mark hot test 1",
                        "rule coming mark hot when test 1")

    def test_two_wishes_about_one_thing(self):
        for first in ("test 1", "thread hot", "sender vip"):
            for left in ("", "not "):
                for right in ("", "not "):
                    self.wrong_rule(f"rule coming mark hot if {left}{first}, {right}{first}")
                    self.wrong_rule(f"rule coming mark hot if {left}{first}, test 2, {right}{first}")
        self.assertEqual(len(book_of("mark a", "standing a", "rule coming mark a if thread a, not sender a")), 1)

    def test_always_rules(self):
        self.wrong_rule("rule always standing vip", "rule always standing vip if test 1",
                        "rule always mark hot if sender vip",
                        "rule always mark hot if not sender vip", "rule always mark hot if test 1, not sender odd")
        rule = book_of(*GROUND, "rule always mark hot if test 1, thread new")[1]
        self.assertEqual(rule.mode, Mode.ALWAYS)

    def test_names_must_stand_before(self):
        self.wrong(1, "rule coming mark a")
        self.wrong(2, "standing a", "rule coming mark a")
        self.wrong(2, "mark a", "rule coming mark a if test 1")
        self.wrong(3, "mark a", "test word w", "rule coming mark a if test 2")
        self.wrong(2, "mark a", "rule coming mark a if sender a")
        self.wrong(2, "mark a", "rule coming mark a if thread b")

    def test_the_first_wrong_row_counts(self):
        self.wrong(2, "mark a", "x", "mark a", "y")
        self.wrong(3, "mark a", "rule coming mark a", "mark b", "rule coming mark c")
        self.wrong(2, "mark a", "rule coming mark b", "")


class WrittenAndEqual(BookCase):
    def test_written_texts_are_read_again(self):
        rng = random.Random(16)
        for _ in range(300):
            text = random_book_text(rng)
            book = Book.read(text)
            self.assertEqual(book.written(), self.ordered(text))
            self.assertEqual(str(book), book.written())
            self.assertIs(Book.read(book.written()) == book, True)
            self.assertEqual(Book.read(book.written()).written(), book.written())

    @staticmethod
    def ordered(text):
        rows = text.split("\n")
        return "\n".join("test house elm oak" if row == "test house oak elm" else row for row in rows)

    def test_houses_are_written_in_order(self):
        first, second = book_of("test house oak ash elm"), book_of("test house elm oak ash")
        self.assertEqual(first.written(), "test house ash elm oak")
        self.assertIs(first == second, True)

    def test_equality(self):
        rows = GROUND + ["rule coming mark hot if test 1", "rule always mark old"]
        book = book_of(*rows)
        self.assertIs(book == book_of(*rows), True)
        self.assertIs(book != book_of(*rows), False)
        for other in (rows[:-1], rows[:-2] + rows[:-3:-1], rows[:-1] + ["rule coming mark old"],
                      ["mark new"] + rows[1:]):
            self.assertIs(book == book_of(*other), False)
        for other in (None, book.written(), 2, list(book)):
            self.assertIs(book == other, False)
        self.assertIs(Book.read("") == "", False)

    def test_rows_are_parsed_as_they_are_built(self):
        rng = random.Random(17)
        for _ in range(300):
            rows, marks, standings, tests = random_ground(rng)
            parts = []
            for _ in range(rng.randint(0, 5)):
                told = random_rule(rng, marks, standings, tests)
                if told:
                    row, texts, part = told
                    parts.append((*part, rule_row(row, texts)))
                    rng.shuffle(texts)
                    rows.append(rule_row(row, texts))
            book = book_of(*rows) if rows else Book.read("")
            found = [(r.mode, r.deed, r.gift, r.own, r.thread, r.sender, r.written()) for r in book]
            self.assertEqual(found, parts)
            self.assertEqual([rule.number for rule in book], list(range(1, len(parts) + 1)))
            self.assertEqual((book.marks, book.standings), (tuple(marks), tuple(standings)))
            self.assertEqual(book.ring, least_ring(book))
            self.assertEqual(book.strata, None if book.ring else least_strata(book))


class Container(BookCase):
    def test_rules_by_number(self):
        book = book_of(*GROUND, "rule coming mark hot", "rule coming mark old")
        self.assertEqual((book[1].gift, book[2].gift, len(book)), ("hot", "old", 2))
        self.assertEqual([rule.number for rule in book], [1, 2])
        for number in (0, 3, -1, -2, 10 ** 30, -10 ** 5000, 10 ** 5000):
            with self.assertRaises(NoRule) as caught:
                book[number]
            self.assertEqual(caught.exception.number, number)
            self.assertIsInstance(caught.exception, MailError)
        with self.assertRaises(NoRule):
            Book.read("")[1]

    def test_layers(self):
        book = book_of("mark a", "mark b", "mark c", "rule always mark a if not thread c",
                       "rule always mark b if thread a")
        self.assertEqual(book.strata, (1, 1, 0))
        self.assertEqual(book.layers(), [["c"], ["a", "b"]])
        book.layers()[0].append("x")
        self.assertEqual(book.layers(), [["c"], ["a", "b"]])
        self.assertEqual(book_of("mark b", "mark a").layers(), [["b", "a"]])
        self.assertEqual(book_of("standing s").layers(), [])

    def test_layers_of_a_book_with_a_ring(self):
        book = book_of("mark a", "rule always mark a if not thread a")
        with self.assertRaises(RingThroughLacks) as caught:
            book.layers()
        self.assertEqual(caught.exception.ring, ((1, "a", "a"),))
        self.assertEqual((book.ring, book.strata), (((1, "a", "a"),), None))


class Grounds(BookCase):
    def test_differs_tells_the_first_part(self):
        book = book_of(*GROUND, "rule coming mark hot")
        cases = (
            ("marks", ["mark new by hand", "mark old by hand", "mark hot"] + GROUND[3:]),
            ("marks", ["mark new", "mark old"]),
            ("hand_marks", ["mark new", "mark hot", "mark old by hand", "standing x"]),
            ("standings", GROUND[:3] + ["standing odd by hand", "standing vip"]),
            ("standings", GROUND[:3]),
            ("hand_standings", GROUND[:3] + ["standing vip by hand", "standing odd by hand", "test word x"]),
            ("tests", GROUND[:5] + GROUND[:4:-1]),
            ("tests", GROUND[:6]),
        )
        for part, rows in cases:
            self.assertEqual(book.differs(book_of(*rows)), part)
            self.assertEqual(book_of(*rows).differs(book), part)
            self.assertIs(book.same_ground(book_of(*rows)), False)

    def test_the_same_ground(self):
        book = book_of(*GROUND, "rule coming mark hot")
        for rows in ([], ["rule always mark hot if not thread hot"]):
            self.assertIs(book.differs(book_of(*GROUND, *rows)), None)
            self.assertIs(book.same_ground(book_of(*GROUND, *rows)), True)
        other = book_of(*GROUND[:6], "test house oak elm")
        self.assertIs(book.same_ground(other), True)

    def test_the_error_of_other_grounds(self):
        error = OtherGround("tests")
        self.assertEqual(error.part, "tests")
        self.assertIsInstance(error, MailError)


class ReadRule(BookCase):
    def test_a_rule_over_the_ground(self):
        book = book_of(*GROUND, "rule coming mark hot", "rule coming mark old")
        rule = book.read_rule("rule always mark new if thread old, test 2")
        self.assertEqual((rule.number, rule.mode, rule.gift), (1, "always", "new"))
        self.assertEqual((rule.own, rule.thread, rule.sender), ((None, True), (None, None, True), (None, None)))
        self.assertEqual((rule.marks, rule.standings), (book.marks, book.standings))
        self.assertEqual(rule.written(), "rule always mark new if test 2, thread old")
        self.assertEqual(len(book), 2)

    def test_a_full_book_reads_rules_too(self):
        book = book_of("mark a", *["rule coming mark a"] * 5)
        self.assertEqual(book.read_rule("rule always mark a").number, 1)

    def test_other_strings(self):
        rule = "rule coming mark a"
        cases = [(Book.read(""), rule), (book_of("mark a"), rule + " if test 1"), (book_of("mark a"), "mark a")]
        cases += [(book_of("mark a"), text) for text in ("", rule + "\n", "\n" + rule, rule + "\n" + rule)]
        for book, text in cases:
            with self.assertRaises(BadBook) as caught:
                book.read_rule(text)
            self.assertEqual(caught.exception.row, 1)


class OtherRules(BookCase):
    ROWS = (
        "rule coming mark hot if test 1", "rule coming standing vip", "rule always mark old if thread hot",
        "rule coming mark new if not thread old", "rule coming mark old if sender vip",
    )

    def setUp(self):
        self.book = book_of(*GROUND, *self.ROWS)

    def check(self, book, *rows):
        self.assertEqual(book.written(), "\n".join([*GROUND, *rows]))
        self.assertEqual([rule.number for rule in book], list(range(1, len(rows) + 1)))
        self.assertEqual(self.book.written(), "\n".join([*GROUND, *self.ROWS]))
        self.assertEqual([rule.number for rule in self.book], [1, 2, 3, 4, 5])
        self.assertIs(self.book.same_ground(book), True)

    def test_with_rules(self):
        rules = [self.book[4], self.book[2], self.book[4]]
        self.check(self.book.with_rules(rules), self.ROWS[3], self.ROWS[1], self.ROWS[3])
        self.check(self.book.with_rules(tuple(rules[:1])), self.ROWS[3])
        self.check(self.book.with_rules([]))
        self.assertEqual([rule.number for rule in rules], [4, 2, 4])
        other = book_of(*GROUND).read_rule("rule always mark hot")
        self.check(book_of(*GROUND).with_rules([other] * 5), *["rule always mark hot"] * 5)

    def test_with_rules_works_out_ring_and_strata(self):
        ring = self.book.read_rule("rule always mark hot if not thread old")
        book = self.book.with_rules([self.book[1], self.book[3], ring])
        self.assertEqual(book.ring, ((3, "hot", "old"), (2, "old", "hot")))
        self.assertIs(book.strata, None)
        self.assertEqual(book.with_rules([ring]).strata, (0, 1, 0))

    def test_with_rules_copies_its_list(self):
        rules = [self.book[4]]
        book = self.book.with_rules(rules)
        rules.append(self.book[1])
        self.check(book, self.ROWS[3])

    def test_turned(self):
        rows = list(self.ROWS)
        self.check(self.book.turned(), *rows)
        rows[3] = "rule always mark new if not thread old"
        self.check(self.book.turned(4), *rows)
        self.check(self.book.turned(4, 4), *rows)
        rows[0] = "rule always mark hot if test 1"
        self.check(self.book.turned(4, 1), *rows)
        self.check(self.book.turned(1, 4, 1), *rows)
        self.assertEqual(self.book.turned(), self.book)

    def test_not_turnable(self):
        for numbers, wrong in (((2,), 2), ((3,), 3), ((5,), 5), ((1, 0, 2), 0), ((6, 2), 6), ((1, 4, 3, 5), 3),
                               ((-1,), -1)):
            with self.assertRaises(NotTurnable) as caught:
                self.book.turned(*numbers)
            self.assertEqual(caught.exception.number, wrong)
            self.assertIsInstance(caught.exception, MailError)
        self.check(self.book.turned(1).turned(4), "rule always mark hot if test 1", *self.ROWS[1:3],
                   "rule always mark new if not thread old", self.ROWS[4])

    def test_a_turned_rule_is_not_turnable(self):
        with self.assertRaises(NotTurnable) as caught:
            self.book.turned(1).turned(4, 1)
        self.assertEqual(caught.exception.number, 1)

    def test_turning_may_close_a_ring(self):
        book = book_of("mark a", "rule coming mark a if not thread a")
        self.assertIs(book.ring, None)
        self.assertEqual(book.turned(1).ring, ((1, "a", "a"),))

    def test_without(self):
        rows = self.ROWS
        self.check(self.book.without(), *rows)
        self.check(self.book.without(1), *rows[1:])
        self.check(self.book.without(5, 2, 5), rows[0], rows[2], rows[3])
        self.check(self.book.without(1, 2, 3, 4, 5))
        self.assertEqual(self.book.without(), self.book)

    def test_without_a_rule_that_is_not_there(self):
        for numbers, wrong in (((0,), 0), ((6,), 6), ((1, 7, 0), 7), ((-1, 1), -1)):
            with self.assertRaises(NoRule) as caught:
                self.book.without(*numbers)
            self.assertEqual(caught.exception.number, wrong)
        self.check(self.book.without(1), *self.ROWS[1:])


if __name__ == "__main__":
    unittest.main()
