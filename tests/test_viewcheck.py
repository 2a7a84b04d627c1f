"""Fault finders: [71] to [77]."""

import random
import unittest
from itertools import combinations

from filedalike.book import Book
from filedalike.closure import Closure
from filedalike.kinds import kind_of, letter_of
from filedalike.letters import Letter
from filedalike.orders import judge
from filedalike.strata import RingThroughLacks
from filedalike.viewcheck import cost_fault, ground_fault, orders_fault, senders_told, table_fault, threads_told
from tests.housemodel import SlowHouse, in_order, random_events, stamp_pair
from tests.reachmodel import NOTHING, SlowReach, united
from tests.test_closure import LARGEST, RINGED, TEXT, random_books


def tables(book):
    """The told rows of a book, with grounds."""
    closure = Closure(book)
    return threads_told(closure), senders_told(closure)


def without_costs(rows):
    return [row[:2] for row in rows]


def with_costs(rows):
    return [row[:3] for row in rows]


def least_lots(costs):
    """The least cost of a lot for each view of one, by trying until nothing changes."""
    least = {NOTHING: 0}
    while True:
        before = dict(least)
        for view, cost in before.items():
            for thread, more in costs.items():
                both = united(view, thread)
                least[both] = min(least.get(both, cost + more), cost + more)
        if least == before:
            return least


class Judge:
    """A slow judge of a table with costs, and of the faults that are told of it."""

    def __init__(self, book, threads, senders):
        self.book = book
        self.model = SlowReach(book)
        self.threads = {(marks, rules): cost for marks, rules, cost in threads}
        self.senders = {(sender, standings): cost for sender, standings, cost in senders}

    def is_wrong(self, costs, row, most):
        return costs.get(row, most + 1) > most

    def letter_is_wrong(self, joined, sender, standings, kind, side, most):
        _, view, after = self.model.step(joined, standings, kind)
        if side == "thread":
            return self.is_wrong(self.threads, view, most)
        return self.is_wrong(self.senders, (sender, after), most)

    def has_fault(self):
        lots = least_lots(self.threads)
        return (
            any(self.is_wrong(self.senders, (sender, ()), 0) for sender in self.model.kinds)
            or any(self.standing_is_wrong(*row, name) for row in self.senders for name in self.book.hand_standings)
            or any(self.mark_is_wrong(row, name) for row in self.threads for name in self.book.hand_marks)
            or any(
                self.letter_is_wrong(joined, sender, standings, kind, side, lots[joined] + cost + 1)
                for joined in lots for (sender, standings), cost in self.senders.items()
                for kind in self.model.kinds[sender] for side in ("thread", "sender")
            )
        )

    def standing_is_wrong(self, sender, standings, standing):
        after = in_order(self.book.standings, {*standings, standing})
        return self.is_wrong(self.senders, (sender, after), self.senders[sender, standings] + 1)

    def mark_is_wrong(self, thread, mark):
        return self.is_wrong(self.threads, united(thread, ((mark,), ())), self.threads[thread] + 1)

    def is_right(self, fault):
        """Whether a fault that is told is one."""
        assert isinstance(fault, tuple)
        word, parts = fault[0], fault[1:]
        if word == "start":
            return parts[0] in self.model.kinds and len(parts) == 1 and self.is_wrong(self.senders, (parts[0], ()), 0)
        if word == "standing":
            return parts[2] in self.book.hand_standings and self.standing_is_wrong(*parts)
        if word == "mark":
            return parts[1] in self.book.hand_marks and self.mark_is_wrong(*parts)
        lot, sender, standings, kind, side = parts
        assert word == "letter" and isinstance(lot, list) and len(lot) <= 8 and kind in self.model.kinds[sender]
        joined, most = NOTHING, self.senders[sender, standings] + 1
        for thread in lot:
            joined, most = united(joined, thread), most + self.threads[thread]
        return self.letter_is_wrong(joined, sender, standings, kind, side, most)


class Tables(unittest.TestCase):
    def check_table(self, book, threads, senders):
        found = table_fault(book, threads, senders)
        slow = Judge(book, [row + (0,) for row in threads], [row + (0,) for row in senders])
        self.assertIs(found is None, not slow.has_fault())
        if found is not None:
            self.assertTrue(slow.is_right(found), found)
        return found

    def check_costs(self, book, threads, senders):
        found = cost_fault(book, threads, senders)
        slow = Judge(book, threads, senders)
        self.assertIs(found is None, not slow.has_fault())
        if found is not None:
            self.assertTrue(slow.is_right(found), found)
        return found

    def test_told_rows(self):
        closure = Closure(Book.read(TEXT))
        threads, senders = threads_told(closure), senders_told(closure)
        self.assertIsInstance(threads, list)
        self.assertIsInstance(senders, list)
        self.assertEqual([row[:2] for row in threads], [view.key() for view in closure.thread_views()])
        self.assertEqual([row[2] for row in threads], [closure.thread_cost(view) for view in closure.thread_views()])
        self.assertEqual(senders[0], ((None,), (), 0, ("start",)))
        self.assertEqual(senders[1], ((None,), ("v",), 2, ("letter", (False,), (("a",), ()), ())))
        self.assertIn((("a", "c"), (), 2, ("hand", "c", (("a",), ()))), threads)
        self.assertIn((("b",), (), 3, ("letter", (True,), NOTHING, (None,), ("v",))), threads)
        self.assertTrue(all(isinstance(row, tuple) for row in threads + senders))

    def test_told_rows_in_order(self):
        closure = Closure(Book.read("standing v by hand\nstanding a by hand\ntest house elm"))
        self.assertEqual([row[:3] for row in senders_told(closure)], [
            (sender, standings, cost)
            for sender in ((False,), (True,))
            for standings, cost in (((), 0), (("a",), 1), (("v",), 1), (("v", "a"), 2))
        ])

    def test_told_tables_have_no_fault(self):
        rng = random.Random(121)
        for book in random_books(122, 100) + [Book.read(LARGEST), Book.read("")]:
            threads, senders = tables(book)
            for _ in range(2):
                self.assertIsNone(table_fault(book, without_costs(threads), without_costs(senders)))
                self.assertIsNone(cost_fault(book, with_costs(threads), with_costs(senders)))
                self.assertIsNone(ground_fault(book, threads, senders))
                rng.shuffle(threads)
                rng.shuffle(senders)

    def test_each_fault_of_a_table(self):
        book = Book.read("mark a by hand\nstanding v by hand")
        threads, senders = [((), ()), (("a",), ())], [((), ()), ((), ("v",))]
        self.assertIsNone(table_fault(book, threads, senders))
        self.assertEqual(table_fault(book, threads, senders[1:]), ("start", ()))
        self.assertEqual(table_fault(book, threads, senders[:1]), ("standing", (), (), "v"))
        self.assertEqual(table_fault(book, threads[:1], senders), ("mark", ((), ()), "a"))
        fault = table_fault(book, threads[1:], senders)
        self.assertEqual((fault[0], fault[1], fault[4:]), ("letter", [], ((), "thread")))
        self.assertEqual(table_fault(book, [], [((), ())])[0], "standing")
        book = Book.read("mark a\nstanding v\nrule coming standing v if thread a\nrule coming mark a if not thread a")
        fault = table_fault(book, [(("a",), ())], [((), ())])
        self.assertEqual(fault, ("letter", [(("a",), ())], (), (), (), "sender"))

    def test_a_table_may_have_more_than_what_is_reached(self):
        book = Book.read("mark a\nstanding v")
        self.assertIsNone(table_fault(book, [((), ()), (("a",), ())], [((), ()), ((), ("v",))]))
        self.assertIsNone(cost_fault(book, [((), (), 1), (("a",), (), 0)], [((), (), 0), ((), ("v",), 9)]))

    def test_costs(self):
        book = Book.read("mark a by hand\nstanding v by hand")
        threads, senders = [((), (), 1), (("a",), (), 2)], [((), (), 0), ((), ("v",), 1)]
        self.assertIsNone(cost_fault(book, threads, senders))
        self.assertIsNone(cost_fault(book, [((), (), 0), (("a",), (), 0)], [((), (), 0), ((), ("v",), 0)]))
        self.assertEqual(cost_fault(book, threads, [((), (), 1), senders[1]]), ("start", ()))
        self.assertEqual(cost_fault(book, threads, [senders[0], ((), ("v",), 2)]), ("standing", (), (), "v"))
        self.assertEqual(cost_fault(book, [threads[0], (("a",), (), 3)], senders), ("mark", ((), ()), "a"))
        fault = cost_fault(book, [((), (), 2), (("a",), (), 2)], senders)
        self.assertEqual(fault, ("letter", [], (), (), (), "thread"))
        self.assertEqual(cost_fault(book, threads, senders[1:]), ("start", ()))

    def test_the_cheapest_lot_counts(self):
        # The view with both marks is joined from two threads for 2 + 2, or is one thread for 3.
        book = Book.read("mark a by hand\nmark b by hand\nstanding v\nrule coming standing v if thread a, thread b")
        threads, senders = tables(book)
        self.assertIsNone(cost_fault(book, with_costs(threads), with_costs(senders)))
        dear = [row[:2] + (row[2] + (row[:2] == ((), ("v",))),) for row in senders]
        self.assertEqual(self.check_costs(book, with_costs(threads), dear)[-1], "sender")

    def test_rows_left_out_at_random(self):
        rng = random.Random(123)
        for book in random_books(124, 120):
            threads, senders = tables(book)
            for _ in range(3):
                here = [row for row in threads if rng.random() < 0.9]
                there = [row for row in senders if rng.random() < 0.9]
                self.check_table(book, without_costs(here), without_costs(there))
                self.check_costs(book, with_costs(here), with_costs(there))
            missing = rng.randrange(len(threads))
            del threads[missing]
            self.assertIsNotNone(self.check_table(book, without_costs(threads), without_costs(senders)))

    def test_other_costs_at_random(self):
        rng = random.Random(125)
        dear = 0
        for book in random_books(126, 120):
            threads, senders = tables(book)
            for side in (threads, senders):
                at = rng.randrange(len(side))
                rows = [row[:3] for row in side]
                rows[at] = rows[at][:2] + (rows[at][2] + 1,)
                told = (rows, with_costs(senders)) if side is threads else (with_costs(threads), rows)
                self.assertIsNotNone(self.check_costs(book, *told))
                rows[at] = rows[at][:2] + (max(0, rows[at][2] - rng.randint(1, 3)),)
                dear += self.check_costs(book, *told) is not None
        self.assertTrue(dear > 20)

    def test_tables_at_random(self):
        rng = random.Random(127)
        closed = 0
        for book in random_books(128, 120):
            always = [rule.number for rule in book if rule.mode == "always"][:2]
            threads = [
                (marks, rules, rng.randint(0, 3))
                for many in range(len(book.marks) + 1) for marks in combinations(sorted(book.marks), many)
                for more in range(len(always) + 1) for rules in combinations(always, more) if rng.random() < 0.8
            ]
            kinds = SlowReach(book).kinds
            senders = [
                (sender, in_order(book.standings, standings), 0 if not standings else rng.randint(0, 2))
                for sender in kinds for many in range(len(book.standings) + 1)
                for standings in combinations(book.standings, many) if rng.random() < 0.95
            ]
            self.check_costs(book, threads, senders)
            closed += self.check_table(book, without_costs(threads), without_costs(senders)) is None
        self.assertTrue(closed > 5)


class Grounds(unittest.TestCase):
    def setUp(self):
        self.book = Book.read(TEXT)
        self.threads, self.senders = tables(self.book)

    def place(self, key):
        return [row[:2] for row in self.threads].index(key)

    def check_thread(self, key, ground, cost=None, fault=True):
        rows = list(self.threads)
        at = self.place(key)
        rows[at] = rows[at][:2] + (rows[at][2] if cost is None else cost, ground)
        found = ground_fault(self.book, rows, self.senders)
        if fault:
            self.assertEqual(found, ("thread", at))
        else:
            # Other rows may rest on this one.
            self.assertTrue(found is None or found > ("thread", at), found)

    def check_sender(self, at, ground, cost=None, fault=True):
        rows = list(self.senders)
        rows[at] = rows[at][:2] + (rows[at][2] if cost is None else cost, ground)
        found = ground_fault(self.book, self.threads, rows)
        if fault:
            self.assertEqual(found, ("sender", at))
        else:
            self.assertTrue(found is None or found[0] == "thread", found)

    def test_hands_on_threads(self):
        key = (("a", "c"), ())
        self.check_thread(key, ("hand", "c", (("a",), ())), fault=False)
        self.check_thread(key, ("hand", "c", (("c",), ())))
        self.check_thread(key, ("hand", "a", (("c",), ())))
        before = [row for row in self.threads if row[:2] in (NOTHING, (("c",), ()))]
        rows = before + [key + (9, ("hand", "a", (("c",), ())))]
        self.assertEqual(ground_fault(self.book, rows, self.senders), ("thread", 2))
        self.check_thread(key, ("hand", "z", (("a",), ())))
        self.check_thread(key, ("hand", "c", NOTHING))
        self.check_thread(key, ("hand", "c", key))
        self.check_thread(key, ("hand", "c", (("a",), (7,))))
        self.check_thread(key, ("hand", "c", (("b",), ())))

    def test_the_cost_of_hands(self):
        key = (("a", "b", "c"), ())
        self.check_thread(key, ("hand", "c", (("a", "b"), ())), fault=False)
        self.check_thread(key, ("hand", "c", (("a", "b"), ())), cost=7, fault=False)
        self.check_thread(key, ("hand", "c", (("a", "b"), ())), cost=4)
        self.check_thread(key, ("hand", "c", (("a", "b"), ())), cost=0)

    def test_letters_of_threads(self):
        key = (("b",), ())
        self.check_thread(key, ("letter", (True,), NOTHING, (None,), ("v",)), fault=False)
        self.check_thread(key, ("letter", (False,), NOTHING, (None,), ("v",)))
        self.check_thread(key, ("letter", (True,), NOTHING, (None,), ()))
        self.check_thread(key, ("letter", (True,), (("a",), ()), (None,), ("v",)))
        self.check_thread(key, ("letter", (True,), (("z",), ()), (None,), ("v",)))
        self.check_thread(key, ("letter", (True,), NOTHING, (True,), ("v",)))
        self.check_thread(key, ("letter", (True,), NOTHING, (None,), ("z",)))
        self.check_thread(key, ("letter", (True, True), NOTHING, (None,), ("v",)))
        self.check_thread(key, ("letter", (), NOTHING, (None,), ("v",)))

    def test_the_cost_of_letters(self):
        key = (("b",), ())
        self.check_thread(key, ("letter", (True,), NOTHING, (None,), ("v",)), cost=4, fault=False)
        self.check_thread(key, ("letter", (True,), NOTHING, (None,), ("v",)), cost=2)
        key = (("a", "b"), ())
        self.check_thread(key, ("letter", (False,), (("a", "b"), ()), (None,), ()), cost=5, fault=False)
        # The lot is a for 1 and b for 3; the row itself costs too much to be the lot.
        self.check_thread(key, ("letter", (False,), (("a", "b"), ()), (None,), ()), cost=4)

    def test_senders(self):
        self.check_sender(0, ("start",), fault=False)
        self.check_sender(0, ("start",), cost=5, fault=False)
        self.check_sender(0, ("letter", (False,), NOTHING, ()))
        self.check_sender(1, ("start",))
        self.check_sender(1, ("hand", "v", ()))
        self.check_sender(1, ("letter", (True,), (("a",), ()), ()))
        self.check_sender(1, ("letter", (False,), NOTHING, ()))
        self.check_sender(1, ("letter", (False,), (("z",), ()), ()))
        self.check_sender(1, ("letter", (False, True), (("a",), ()), ()))
        self.check_sender(1, ("letter", (False,), (("a",), ()), ("v",)))
        self.check_sender(1, ("letter", (False,), (("a",), ()), ("z",)))
        self.check_sender(1, ("letter", (False,), (("a", "b"), ()), ()))
        self.check_sender(1, ("letter", (False,), (("a",), ()), ()), cost=1)
        self.check_sender(1, ("letter", (False,), (("a",), ()), ()), cost=3, fault=False)

    def test_hands_of_senders(self):
        book = Book.read("standing v by hand\nstanding u by hand\ntest house elm")
        threads, senders = tables(book)
        at = [row[:2] for row in senders].index(((True,), ("v", "u")))
        for ground, right in (
            (("hand", "u", ("v",)), True), (("hand", "v", ("u",)), True), (("hand", "v", ("v",)), False),
            (("hand", "u", ()), False), (("hand", "u", ("v", "u")), False), (("hand", "z", ("v",)), False),
            (("hand", "u", ("z",)), False), (("letter", (True,), NOTHING, ("v",)), False),
            (("letter", (False,), NOTHING, ("v", "u")), False),
        ):
            rows = list(senders)
            rows[at] = rows[at][:3] + (ground,)
            self.assertEqual(ground_fault(book, threads, rows), None if right else ("sender", at))
        rows[at] = ((True,), ("v", "u"), 1, ("hand", "u", ("v",)))
        self.assertEqual(ground_fault(book, threads, rows), ("sender", at))

    def test_a_kind_of_another_sender_kind(self):
        book = Book.read("mark a\ntest house elm\nrule coming mark a if test 1")
        threads, senders = tables(book)
        rows = [row[:3] + (("letter", (True,), NOTHING, (False,), ()),) if row[0] else row for row in threads]
        self.assertEqual(ground_fault(book, rows, senders), ("thread", 1))
        rows = [row[:3] + (("letter", (True,), NOTHING, (True,), ()),) if row[0] else row for row in threads]
        self.assertIsNone(ground_fault(book, rows, senders))

    def test_threads_are_told_ahead_of_senders(self):
        threads = [row[:3] + (("hand", "z", NOTHING),) for row in self.threads]
        senders = [row[:3] + (("hand", "z", ()),) for row in self.senders]
        self.assertEqual(ground_fault(self.book, threads, senders), ("thread", 0))
        self.assertEqual(ground_fault(self.book, self.threads[:2] + threads[2:], senders), ("thread", 2))
        self.assertEqual(ground_fault(self.book, self.threads, senders), ("sender", 0))
        self.assertIsNone(ground_fault(self.book, [], []))

    def test_the_cheapest_lot_of_the_table_counts(self):
        key = (("a", "b"), ())
        ground = ("letter", (False,), key, (None,), ())
        rows = [row for row in self.threads if row[:2] in ((("a",), ()), (("b",), ()))]
        for cost, right in ((5, True), (4, False), (6, True)):
            found = ground_fault(self.book, rows + [key + (cost, ground)], self.senders)
            self.assertEqual(found, None if right else ("thread", 2))

    def test_what_rests_on_nothing_is_found(self):
        rng = random.Random(129)
        many = 0
        for book in random_books(130, 80):
            threads, senders = tables(book)
            for rows in (threads, senders):
                at = rng.randrange(len(rows))
                cheap = list(rows)
                if not cheap[at][2]:
                    continue
                many += 1
                cheap[at] = cheap[at][:2] + (cheap[at][2] - 1, cheap[at][3])
                told = (cheap, senders) if rows is threads else (threads, cheap)
                self.assertIsNotNone(ground_fault(book, *told))
        self.assertTrue(many > 60)


class Orders(unittest.TestCase):
    TEXT = "\n".join([
        "mark a by hand", "mark b", "standing v by hand", "standing u", "test word x",
        "rule coming mark b if not thread a, not sender v", "rule always mark b if thread a, test 1",
    ])

    def setUp(self):
        self.book = Book.read(self.TEXT)

    def check(self, word, first, number=9, second=None):
        given = list(first)
        second = first[-1:] + first[:-1] if second is None else second
        self.assertEqual(orders_fault(self.book, first, second, number), word)
        self.assertEqual(first, given)

    def last(self, *answers, number=9):
        return "letter", letter_of(self.book.tests, (False,) * len(self.book.tests), number=number, answers=answers)

    def other(self, number, *answers, person="b"):
        kind = (False,) * len(self.book.tests)
        return "letter", letter_of(self.book.tests, kind, number=number, person=person, answers=answers)

    def test_no_fault(self):
        self.check(None, [self.other(1), ("mark", 1, "a"), self.last(1)])
        self.check(None, [("standing", "a at a", "v"), self.last()])
        self.check(None, [self.other(1), ("mark", 1, "a"), self.other(2, 1), self.other(3), self.last(2, 3)])

    def test_bound_books_at_random(self):
        many = 0
        for book in random_books(131, 200):
            verdict = judge(book)
            if not verdict.free:
                many += 1
                told = verdict.first_order(), verdict.second_order(), verdict.number
                self.assertIsNone(orders_fault(book, *told))
                self.assertEqual(orders_fault(book, told[0], told[1], told[2] + 1), "number")
                self.assertEqual(orders_fault(book, told[0], told[0], told[2]) == "order", told[0] != told[1])
        self.assertTrue(many > 40)

    def test_number(self):
        good = [self.other(1), ("mark", 1, "a"), self.last(1)]
        self.check("number", good, 8)
        self.check("number", good, 1)
        self.check("number", good[:-1])
        self.check("number", [])
        self.check("number", [self.last(1)] + good)
        self.check("number", [self.other(9)] + good)
        self.check("number", good + [("mark", 9, "a")])
        self.check("number", [self.other(1), self.last(1), self.other(2)])

    def test_events(self):
        self.check("events", [("seen", 1, True, 0, "d"), self.last()])
        self.check("events", [("mark", 1, "b"), self.last()])
        self.check("events", [("mark", 1, "z"), self.last()])
        self.check("events", [("standing", "a at a", "u"), self.last()])
        self.check("events", [("standing", "a at a", "a"), self.last()])
        self.check("events", [None, self.last()])
        self.check("events", [("mark", 0, "a"), self.last()])

    def test_order(self):
        good = [self.other(1), ("mark", 1, "a"), self.last(1)]
        for second in (good, good[::-1], [good[2], good[0]], [good[2], good[1], good[0]], [], good[2:] + good):
            self.check("order", good, second=second)
        self.check(None, good, second=[self.last(1), self.other(1), ("mark", 1, "a")])

    def test_clash(self):
        self.check("clash", [self.other(1), self.other(1, 5), self.last(1)])
        self.check("clash", [self.other(1), self.other(2), ("mark", 2, "a"), self.other(1, person="c"), self.last(2)])

    def test_alike(self):
        self.check("alike", [self.last()])
        self.check("alike", [self.other(1), self.last(1)])
        self.check("alike", [self.other(1), ("mark", 1, "a"), self.last()])
        self.check("alike", [("standing", "b at a", "v"), self.last()])

    def test_which_word_comes_first(self):
        seen = ("seen", 1, True, 0, "d")
        clash = [self.other(1), self.other(1, 5)]
        self.check("number", [seen] + clash, second=[])
        self.check("events", [seen] + clash + [self.last()], second=[])
        self.check("order", clash + [self.last()], second=[])
        self.check("clash", clash + [self.last()])
        self.check("alike", clash[:1] + [self.last()])

    # Letters with the word get b if they see a; letters without it get c if they see b.
    CHAIN = "\n".join([
        "mark a by hand", "mark b", "mark c", "test word x", "rule coming mark b if thread a, test 1",
        "rule coming mark c if thread b, not test 1",
    ])

    def test_a_letter_that_comes_twice_counts_once(self):
        self.book = Book.read(self.CHAIN)
        first = "letter", letter_of(self.book.tests, (True,), number=1)
        self.check("alike", [first, ("mark", 1, "a"), first, self.last(1)])
        second = "letter", letter_of(self.book.tests, (True,), number=2, answers=(1,))
        self.check(None, [first, ("mark", 1, "a"), first, second, self.last(1)])
        self.check(None, [first, ("mark", 1, "a"), second, first, second, self.last(1)])

    def test_marks_ahead_of_their_letter(self):
        self.book = Book.read(self.CHAIN)
        first = "letter", letter_of(self.book.tests, (True,), number=1)
        second = "letter", letter_of(self.book.tests, (True,), number=2, answers=(1,))
        # The mark is not in the view of letter 1, but in that of letter 2.
        self.check("alike", [("mark", 1, "a"), first, self.last(1)])
        self.check(None, [("mark", 1, "a"), first, second, self.last(2)])
        self.check("alike", [("mark", 2, "a"), first, second, self.last(2)])
        self.check("alike", [("mark", 7, "a"), first, second, self.last(2)])

    def test_a_mark_on_the_letter_itself(self):
        self.book = Book.read("mark a by hand\nmark b\nrule coming mark b if thread a")
        self.check("alike", [("mark", 9, "a"), self.other(1), self.last(1)])
        self.check(None, [("mark", 1, "a"), self.other(1), self.last(1)])

    def test_threads_through_absent_numbers(self):
        self.check(None, [self.other(1, 20), ("mark", 1, "a"), self.last(20)])
        self.check(None, [self.other(1, 9), ("mark", 1, "a"), self.last()])
        self.check("alike", [self.other(1, 21), ("mark", 1, "a"), self.last(20)])

    def test_the_words_at_random(self):
        rng = random.Random(132)
        found = {}
        for book in random_books(133, 300):
            events = random_events(rng, book, rng.randint(1, 8), 4)
            if rng.random() < 0.9:
                events = [event for event in events if event[0] != "seen"]
            letters = [event[1] for event in events if event[0] == "letter"]
            if not letters:
                continue
            last = letters[-1]
            first = [event for event in events if event[0] != "letter" or event[1] != last] + [("letter", last)]
            second = first[-1:] + first[:-1]
            if any(event[0] == "seen" for event in first):
                word = "events"
            else:
                house = SlowHouse(book)
                house.play(first)
                alone = stamp_pair(book, kind_of(book.tests, last), (), ())[0]
                word = "alike" if house.stamps[last.number] == alone else None
            self.assertEqual(orders_fault(book, first, second, last.number), word)
            found[word] = found.get(word, 0) + 1
        self.assertEqual(set(found), {"events", "alike", None})
        self.assertTrue(min(found.values()) > 3, found)


class Rings(unittest.TestCase):
    def test_rings_come_before_anything_else(self):
        book = Book.read(RINGED)
        calls = (
            lambda: table_fault(book, [], []), lambda: cost_fault(book, [], []), lambda: ground_fault(book, [], []),
            lambda: orders_fault(book, [], [], 1), lambda: judge(book),
            lambda: orders_fault(book, [("letter", Letter(1, "a", "b"))], [], 1),
        )
        for call in calls:
            with self.assertRaises(RingThroughLacks) as caught:
                call()
            self.assertEqual(caught.exception.ring, ((1, "a", "a"),))


if __name__ == "__main__":
    unittest.main()
