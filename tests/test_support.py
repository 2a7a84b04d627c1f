"""Why threads have marks or lack them: [44] to [47]."""

import random
import unittest

from filedalike.always import View, thread_marks
from filedalike.book import Book
from filedalike.errors import MailError
from filedalike.strata import RingThroughLacks
from filedalike.support import HasMark, NoMark, Reason, bars, derivation, first_fault
from tests.models import least_strata, marks_had, random_book_text

GROUND = "mark c by hand\nmark a\nmark b\nstanding s\ntest word x\ntest words 3"
RINGED = GROUND + "\nrule always mark a if not thread a"


def book_of(*rows):
    return Book.read("\n".join((GROUND,) + rows))


def told(reason):
    return reason.mark, reason.stratum, reason.rank, reason.rule, reason.has, reason.lacks


def random_cases(seed, many):
    """Books without a ring, each with a view of it."""
    rng = random.Random(seed)
    found = []
    while len(found) < many:
        book = Book.read(random_book_text(rng, rng.choice(["always", None])))
        if book.ring is None:
            marks = [mark for mark in book.marks if rng.random() < 0.3]
            found.append((book, View(marks, [rule.number for rule in book if rng.random() < 0.7])))
    return found


def plain_derivation(book, view):
    """The derivation, round by round, with its own idea of what rules wish."""
    rules = [rule for rule in book if rule.mode == "always" and rule.number in view.rules]
    strata = dict(zip(book.marks, least_strata(book)))
    had, rows = [], []
    for stratum in range(max(strata.values(), default=-1) + 1):
        layer = [mark for mark in book.marks if strata[mark] == stratum]
        now = [(mark, stratum, 0, None, (), ()) for mark in layer if mark in view.marks]
        rank = 0
        while now or rank == 0:
            rows += now
            had = [row[0] for row in rows]
            rank += 1
            now = []
            for mark in layer:
                for rule in rules:
                    has = tuple(each for each, wish in zip(book.marks, rule.thread) if wish is True)
                    lacks = tuple(each for each, wish in zip(book.marks, rule.thread) if wish is False)
                    meets = all(each in had for each in has) and not any(each in had for each in lacks)
                    if rule.gift == mark and mark not in had and meets and mark not in [row[0] for row in now]:
                        now.append((mark, stratum, rank, rule.number, has, lacks))
    return rows


class Reasons(unittest.TestCase):
    def test_attributes(self):
        has, lacks = ["a", "b"], ["c"]
        reason = Reason("hot", 1, 2, 4, has=has, lacks=lacks)
        self.assertEqual(told(reason), ("hot", 1, 2, 4, ("a", "b"), ("c",)))
        has.append("z")
        lacks.clear()
        self.assertEqual(told(reason), ("hot", 1, 2, 4, ("a", "b"), ("c",)))
        self.assertEqual(told(Reason("hot", 0, 0)), ("hot", 0, 0, None, (), ()))
        self.assertEqual(told(Reason("hot", 0, 3, has=("b", "a", "b"))), ("hot", 0, 3, None, ("b", "a", "b"), ()))
        self.assertEqual(told(Reason("hot", 0, 3, rule=2)), ("hot", 0, 3, 2, (), ()))

    def test_written(self):
        self.assertEqual(
            Reason("hot", 1, 2, 4, has=["new"], lacks=["old", "odd"]).written(),
            "hot       1  2 rule 4 has new lacks old lacks odd",
        )
        self.assertEqual(Reason("hot", 1, 0).written(), "hot       1  0 put")
        self.assertEqual(Reason("eightabc", 12, 34, 5).written(), "eightabc 12 34 rule 5")
        reason = Reason("a", 0, 0, has=["b", "c"], lacks=["d"])
        self.assertEqual(reason.written(), "a         0  0 put has b has c lacks d")
        self.assertEqual(Reason("a", 100, 7, 123).written(), "a        100  7 rule 123")

    def test_equality_compares_all_six(self):
        reason = Reason("hot", 1, 2, 4, has=["a", "b"], lacks=["c"])
        self.assertIs(reason == Reason("hot", 1, 2, 4, has=("a", "b"), lacks=("c",)), True)
        others = (
            Reason("cold", 1, 2, 4, has=["a", "b"], lacks=["c"]), Reason("hot", 0, 2, 4, has=["a", "b"], lacks=["c"]),
            Reason("hot", 1, 1, 4, has=["a", "b"], lacks=["c"]), Reason("hot", 1, 2, 3, has=["a", "b"], lacks=["c"]),
            Reason("hot", 1, 2, has=["a", "b"], lacks=["c"]), Reason("hot", 1, 2, 4, has=["b", "a"], lacks=["c"]),
            Reason("hot", 1, 2, 4, has=["a", "b"]), told(reason), None,
        )
        for other in others:
            self.assertIs(reason == other, False)


class Derivations(unittest.TestCase):
    def check(self, book, view, rows):
        found = derivation(book, view)
        self.assertIsInstance(found, list)
        self.assertEqual([told(reason) for reason in found], rows)
        self.assertTrue(all(isinstance(reason, Reason) for reason in found))

    def test_empty_views(self):
        self.check(book_of("rule always mark a"), View(), [])
        self.check(Book.read(""), View(["a"], [1]), [])

    def test_put_marks_and_given_ones(self):
        book = book_of(
            "rule always mark a if thread c", "rule always mark b if thread a, thread c", "rule always mark a",
        )
        self.check(book, View(["c"], [1, 2]), [
            ("c", 0, 0, None, (), ()), ("a", 0, 1, 1, ("c",), ()), ("b", 0, 2, 2, ("c", "a"), ()),
        ])
        self.check(book, View(["a"], [1, 2, 3]), [("a", 0, 0, None, (), ())])
        self.check(book, View(["b", "c"], [3]), [
            ("c", 0, 0, None, (), ()), ("b", 0, 0, None, (), ()), ("a", 0, 1, 3, (), ()),
        ])

    def test_the_least_rule_of_the_round_is_told(self):
        book = book_of(
            "rule always mark a if test 1", "rule always mark a if thread c", "rule always mark a if not thread b",
            "rule always mark a",
        )
        self.check(book, View(["c"], [1, 2, 3, 4]), [("c", 0, 0, None, (), ()), ("a", 1, 1, 1, (), ())])
        self.check(book, View(["c"], [2, 3, 4]), [("c", 0, 0, None, (), ()), ("a", 1, 1, 2, ("c",), ())])
        self.check(book, View([], [2, 3, 4]), [("a", 1, 1, 3, (), ("b",))])
        self.check(book, View(["b"], [2, 3, 4]), [("b", 0, 0, None, (), ()), ("a", 1, 1, 4, (), ())])

    def test_a_rule_that_meets_later_does_not_count(self):
        book = book_of("rule always mark a if thread b", "rule always mark b", "rule always mark a if thread c")
        self.check(book, View(["c"], [1, 2, 3]), [
            ("c", 0, 0, None, (), ()), ("a", 0, 1, 3, ("c",), ()), ("b", 0, 1, 2, (), ()),
        ])
        self.check(book, View([], [1, 2, 3]), [("b", 0, 1, 2, (), ()), ("a", 0, 2, 1, ("b",), ())])

    def test_strata(self):
        book = book_of("rule always mark c if not thread a", "rule always mark a if not thread b")
        self.check(book, View([], [1, 2]), [("a", 1, 1, 2, (), ("b",))])
        self.check(book, View(["b"], [1, 2]), [("b", 0, 0, None, (), ()), ("c", 2, 1, 1, (), ("a",))])
        self.check(book, View(["c", "a"], [1, 2]), [("a", 1, 0, None, (), ()), ("c", 2, 0, None, (), ())])

    def test_wishes_are_told_in_book_order(self):
        book = book_of("rule always mark b if not thread a, thread c")
        self.check(book, View(["c"], [1]), [("c", 0, 0, None, (), ()), ("b", 1, 1, 1, ("c",), ("a",))])

    def test_what_the_book_lacks_counts_for_nothing(self):
        book = book_of("rule coming mark a", "rule always mark b")
        self.check(book, View(["zz", "s"], [0, 1, 2, 9]), [("b", 0, 1, 2, (), ())])

    def test_derivations_at_random(self):
        sizes = set()
        for book, view in random_cases(31, 2000):
            rows = plain_derivation(book, view)
            self.check(book, view, rows)
            self.assertEqual({row[0] for row in rows}, set(marks_had(book, view.marks, view.rules)))
            self.assertIsNone(first_fault(book, view, derivation(book, view)))
            sizes |= {row[1:3] for row in rows}
        self.assertEqual({(0, 0), (0, 1), (0, 2), (1, 0), (1, 1)} - sizes, set())


class Faults(unittest.TestCase):
    # c in stratum 0, a and b in stratum 1.
    ROWS = (
        "rule always mark a if not thread c", "rule always mark b if thread a", "rule coming mark a",
        "rule always mark a if thread b", "rule always mark b if not thread c, thread a",
    )

    def setUp(self):
        self.book = book_of(*self.ROWS)
        self.assertEqual(self.book.strata, (0, 1, 1))
        self.view = View([], [1, 2, 4])
        self.good = [Reason("a", 1, 1, 1, lacks=["c"]), Reason("b", 1, 2, 2, has=["a"])]

    def check(self, fault, reasons, view=None):
        before = [told(reason) for reason in reasons]
        self.assertEqual(first_fault(self.book, view or self.view, reasons), fault)
        self.assertEqual([told(reason) for reason in reasons], before)

    def test_no_fault(self):
        self.check(None, self.good)
        self.check(None, [], View())
        self.assertIsNone(first_fault(Book.read(""), View(["a"], [1]), []))

    def test_lists_that_are_no_derivation(self):
        self.check(None, [Reason("a", 1, 1, 1, lacks=["c"]), Reason("b", 1, 7, 2, has=["a"])])
        self.check(None, [Reason("b", 1, 0), Reason("a", 1, 5, 4, has=["b"])], View(["b"], [1, 4]))
        self.check(None, [Reason("b", 1, 0), Reason("a", 1, 0)], View(["b", "a"], [2, 4]))

    def test_mark(self):
        self.check((0, "mark"), [Reason("z", 7, 7, 7)])
        self.check((0, "mark"), [Reason("s", 0, 0)], View(["s"]))
        self.check((1, "mark"), [self.good[0], self.good[0], self.good[1]])
        self.check((2, "mark"), self.good + [Reason("a", 9, 9)])

    def test_stratum(self):
        self.check((0, "stratum"), [Reason("a", 0, 1, 1, lacks=["c"])])
        self.check((1, "stratum"), [self.good[0], Reason("b", 2, -1)])

    def test_rank(self):
        self.check((0, "rank"), [Reason("a", 1, 1)], View(["a"]))
        self.check((0, "rank"), [Reason("a", 1, -1)])
        self.check((0, "rank"), [Reason("a", 1, 0, 1, lacks=["c"])])
        self.check((0, "rank"), [Reason("a", 1, -3, 77)])

    def test_put(self):
        self.check((0, "put"), [Reason("a", 1, 0)])
        self.check((0, "put"), [Reason("a", 1, 0, has=["b"])])
        self.check(None, [Reason("a", 1, 0)], View(["a"]))

    def test_rule(self):
        for number in (0, 2, 3, 6, 99, -1):
            self.check((0, "rule"), [Reason("a", 1, 1, number, has=["z"])])
        self.check((0, "rule"), [Reason("a", 1, 1, 1, lacks=["c"])], View([], [2, 4]))
        self.check((1, "rule"), [self.good[0], Reason("b", 1, 2, 5, has=["a"], lacks=["c"])])
        self.check((0, "rule"), [Reason("a", 1, 1, 3)], View([], [1, 3]))

    def test_has(self):
        self.check((1, "has"), [self.good[0], Reason("b", 1, 2, 2)])
        self.check((1, "has"), [self.good[0], Reason("b", 1, 2, 2, has=["a", "a"])])
        self.check((1, "has"), [self.good[0], Reason("b", 1, 2, 2, has=["c"], lacks=["c"])])
        self.check((0, "has"), [Reason("a", 1, 0, has=["c"], lacks=["b"])], View(["a"]))
        self.check((0, "has"), [Reason("a", 1, 1, 1, has=["b"])])

    def test_has_stands_before_with_a_lesser_place(self):
        self.check((0, "has"), [self.good[1], self.good[0]])
        self.check((1, "has"), [self.good[0], Reason("b", 1, 1, 2, has=["a"])])
        self.check((1, "has"), [Reason("a", 1, 3, 1, lacks=["c"]), Reason("b", 1, 2, 2, has=["a"])])
        self.check(None, [Reason("a", 1, 3, 1, lacks=["c"]), Reason("b", 1, 4, 2, has=["a"])])
        book = book_of("rule always mark b if thread c, not thread a")
        reasons = [Reason("c", 0, 0), Reason("b", 1, 1, 1, has=["c"], lacks=["a"])]
        self.assertIsNone(first_fault(book, View(["c"], [1]), reasons))
        self.assertEqual(first_fault(book, View(["c"], [1]), reasons[::-1]), (0, "has"))

    def test_reasons_that_rest_on_each_other(self):
        reasons = [Reason("a", 1, 2, 4, has=["b"]), Reason("b", 1, 1, 2, has=["a"])]
        self.check((0, "has"), reasons, View([], [2, 4]))
        self.check((0, "has"), reasons[::-1], View([], [2, 4]))

    def test_lacks(self):
        self.check((0, "lacks"), [Reason("a", 1, 1, 1)])
        self.check((0, "lacks"), [Reason("a", 1, 1, 1, lacks=["b"])])
        self.check((0, "lacks"), [Reason("a", 1, 1, 1, lacks=["c", "c"])])
        self.check((0, "lacks"), [Reason("a", 1, 0, lacks=["c"])], View(["a"]))
        self.check((0, "lacks"), [self.good[0], Reason("c", 0, 0)], View(["c"], [1]))
        self.check((1, "lacks"), [Reason("c", 0, 0), self.good[0]], View(["c"], [1]))

    def test_lacks_of_a_reason_behind_that_is_wrong_itself(self):
        self.check((0, "lacks"), [self.good[0], Reason("c", 9, 9)])

    def test_missing(self):
        self.check((0, "missing"), [])
        self.check((1, "missing"), self.good[:1])
        self.check((2, "missing"), self.good, View(["c", "a"], [1, 2, 4]))
        self.check((0, "missing"), [], View(["c"]))
        self.check(None, [], View(["zz"], [2, 3, 77]))
        self.check((1, "missing"), [Reason("c", 0, 0)], View(["c", "b"], [1]))

    def test_the_first_reason_with_a_fault_is_told(self):
        self.check((0, "lacks"), [Reason("a", 1, 1, 1), Reason("z", 0, 0)])
        self.check((1, "mark"), [self.good[0], Reason("z", 0, 0)])

    def test_which_of_two_faults_comes_first(self):
        cases = (
            ("mark", Reason("z", 5, -1, 9, has=["z"], lacks=["z"])),
            ("stratum", Reason("a", 5, -1, 9, has=["z"], lacks=["z"])),
            ("rank", Reason("a", 1, -1, 9, has=["z"], lacks=["z"])),
            ("rank", Reason("a", 1, -1, None, has=["z"], lacks=["z"])),
            ("put", Reason("a", 1, 0, None, has=["z"], lacks=["z"])),
            ("rule", Reason("a", 1, 1, 9, has=["z"], lacks=["z"])),
            ("has", Reason("a", 1, 1, 1, has=["z"], lacks=["z"])),
            ("lacks", Reason("a", 1, 1, 1, has=[], lacks=["z"])),
        )
        for word, reason in cases:
            self.check((0, word), [reason])

    def test_a_list_without_a_fault_has_the_marks_of_the_thread(self):
        rng = random.Random(32)
        faultless = 0
        for book, view in random_cases(33, 300):
            reasons = derivation(book, view)
            for reason in reasons:
                if reason.rank > 0 and rng.random() < 0.5:
                    reason.rank += 1
            rng.shuffle(reasons)
            del reasons[rng.randint(0, 4):]
            fault = first_fault(book, view, reasons)
            had = set(thread_marks(book, view))
            if fault is None:
                faultless += 1
                self.assertEqual({reason.mark for reason in reasons}, had)
            elif len(reasons) < len(had):
                self.assertTrue(fault[0] <= len(reasons))
        self.assertTrue(faultless > 40)


class Bars(unittest.TestCase):
    def setUp(self):
        self.book = book_of(
            "rule always mark a if thread c, not thread b", "rule coming mark a", "rule always mark a if not thread b",
            "rule always mark b if test 1", "rule always mark a if thread b, thread c",
        )

    def check(self, found, view, mark, book=None):
        here = bars(book or self.book, view, mark)
        self.assertIsInstance(here, list)
        self.assertEqual(here, found)

    def test_rules_that_do_not_fit(self):
        self.check([(1, "own", None), (3, "own", None), (5, "own", None)], View(), "a")
        self.check([(4, "own", None)], View(["c"], [1, 3]), "b")
        self.check([], View(["a"], [1, 3, 4, 5]), "c")

    def test_the_first_condition_in_book_order(self):
        self.check([(1, "lacking", "c"), (3, "had", "b"), (5, "lacking", "c")], View(["b"], [1, 3, 5]), "a")
        self.check([(1, "had", "b"), (3, "own", None), (5, "own", None)], View(["b", "c"], [1]), "a")
        self.check([(1, "lacking", "c"), (3, "own", None), (5, "lacking", "c")], View([], [1, 5]), "a")
        self.check([(1, "own", None), (3, "own", None), (5, "lacking", "b")], View(["c"], [5]), "a")

    def test_marks_that_rules_give_count(self):
        self.check([(1, "lacking", "c"), (3, "had", "b"), (5, "own", None)], View([], [1, 3, 4]), "a")

    def test_no_mark_and_had_marks(self):
        for name in ("s", "z"):
            with self.assertRaises(NoMark) as caught:
                bars(self.book, View([name]), name)
            self.assertEqual(caught.exception.name, name)
        for view in (View(["a"]), View([], [3]), View(["c"], [1])):
            with self.assertRaises(HasMark) as caught:
                bars(self.book, view, "a")
            self.assertEqual(caught.exception.name, "a")

    def test_bars_at_random(self):
        seen = set()
        for book, view in random_cases(34, 300):
            had = marks_had(book, view.marks, view.rules)
            for mark in book.marks:
                if mark in had:
                    self.assertRaises(HasMark, bars, book, view, mark)
                    continue
                rows = bars(book, view, mark)
                givers = [rule for rule in book if rule.mode == "always" and rule.gift == mark]
                self.assertEqual([row[0] for row in rows], [rule.number for rule in givers])
                for rule, (_, word, name) in zip(givers, rows):
                    seen.add(word)
                    self.assertEqual(word == "own", rule.number not in view.rules)
                    if word != "own":
                        failing = [
                            other for other, wish in zip(book.marks, rule.thread)
                            if wish is not None and wish != (other in had)
                        ]
                        self.assertEqual(name, failing[0])
                        self.assertEqual(word == "had", name in had)
        self.assertEqual(seen, {"own", "lacking", "had"})


class Errors(unittest.TestCase):
    def test_rings_come_first(self):
        book = Book.read(RINGED)
        calls = (
            lambda: derivation(book, View()), lambda: first_fault(book, View(), []),
            lambda: first_fault(book, View(), [Reason("z", 0, 0)]), lambda: bars(book, View(), "z"),
            lambda: bars(book, View(["a"]), "a"),
        )
        for call in calls:
            with self.assertRaises(RingThroughLacks) as caught:
                call()
            self.assertEqual(caught.exception.ring, ((1, "a", "a"),))

    def test_bases(self):
        self.assertEqual((NoMark.__bases__, HasMark.__bases__), ((MailError,), (MailError,)))


if __name__ == "__main__":
    unittest.main()
