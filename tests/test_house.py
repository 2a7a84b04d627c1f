"""The house: [55] to [58], and [2] to [4] for houses."""

import unittest

from filedalike.book import Book, OtherGround
from filedalike.errors import Clash, MailError
from filedalike.house import BadEvent, House, NotByHand, is_event
from filedalike.kept import NoLetter
from filedalike.letters import Letter
from filedalike.stamps import Stamp
from filedalike.strata import RingThroughLacks

GROUND = "mark c by hand\nmark a\nmark b by hand\nstanding v\nstanding u by hand\ntest word x\ntest words 3"
RING = "rule always mark a if not thread a"


def book_of(*rows):
    return Book.read("\n".join((GROUND,) + rows))


def letter(number, *answers, words=(), person="ann", house="oak"):
    return Letter(number, person, house, answers=answers, words=words)


def state(house):
    """All that a house tells."""
    return (
        house.summary(), [str(event[1]) + str(event[2:]) for event in house.deeds()], [each.number for each in house],
        [house.sight_of(each.number) for each in house], house.book.written(),
    )


class Anything:
    """Equal to all that it is compared with."""

    def __eq__(self, other):
        return True


class IsEvent(unittest.TestCase):
    def test_events(self):
        for thing in (
            ("letter", letter(1)), ("mark", 1, "a"), ("mark", 10 ** 30, "nowhere"), ("standing", "ann at oak", "s"),
            ("seen", 3, True, 0, "d"), ("seen", 3, False, 10 ** 30, "abcdefgh"),
        ):
            self.assertIs(is_event(thing), True, thing)

    def test_other_things(self):
        for thing in (
            None, 3, "letter", [], (), {}, object(), letter(1), ["letter", letter(1)], ("letter",), ("letter", 1),
            ("letter", letter(1), 2), ("Letter", letter(1)), ("mark", 1), ("mark", 0, "a"), ("mark", 10 ** 30 + 1, "a"),
            ("mark", True, "a"), ("mark", "1", "a"), ("mark", 1, "A"), ("mark", 1, None), ("mark", 1, "a", "b"),
            ("standing", "ann", "s"), ("standing", "ann at oak", "S"), ("standing", "ann at oak"), ("standing", 3, "s"),
            ("seen", 3, True), ("seen", 3, True, 0), ("seen", 0, True, 0, "d"), ("seen", 3, 1, 0, "d"),
            ("seen", 3, None, 0, "d"), ("seen", 3, True, -1, "d"), ("seen", 3, True, 10 ** 30 + 1, "d"),
            ("seen", 3, True, False, "d"), ("seen", 3, True, 0, "D"), ("seen", 3, True, 0, "d", 1),
            (letter(1), "letter"),
            (["letter"], letter(1)), (None, 1, 2), ("edit", Book.read("")), ((), ()), (b"letter", letter(1)),
            ("other", "ann at oak", "s"), ("other", 3, "c"), ("other", 3, True, 0, "d"), ("other", letter(1)),
            (Anything(), letter(1)), (Anything(), 3, "c"),
        ):
            self.assertIs(is_event(thing), False, thing)


class Comings(unittest.TestCase):
    def setUp(self):
        self.house = House(book_of(
            "rule coming mark a if test 1", "rule always mark b if thread a", "rule coming standing v if thread b",
            "rule coming mark c if sender v",
        ))

    def test_an_empty_house(self):
        house = self.house
        self.assertEqual((len(house), list(house), house.deeds()), (0, [], []))
        self.assertEqual(house.summary(), ((), (), ()))
        self.assertIs(3 in house, False)
        self.assertEqual(house.standings_of("ann at oak"), ())
        self.assertIs(house.seen_of(3), False)

    def test_stamps_and_sights(self):
        house = self.house
        self.assertIs(house.come(letter(5, words=["x"])), True)
        self.assertIsInstance(house.stamp_of(5), Stamp)
        self.assertEqual((house.stamp_of(5), house.stamp_of(5).rules), (Stamp(["a"], []), (1,)))
        self.assertEqual(house.sight_of(5), ((), ()))
        self.assertEqual(house.marks_of(5), ("a", "b"))
        house.come(letter(6, 5))
        self.assertEqual(house.sight_of(6), (("a", "b"), ()))
        self.assertEqual(house.stamp_of(6), Stamp(["c"], ["v"]))
        self.assertEqual(house.stamp_of(6).rules, (3, 4))
        house.come(letter(7))
        self.assertEqual(house.sight_of(7), ((), ("v",)))
        self.assertEqual((house.stamp_of(7), house.marks_of(7)), (Stamp(["c"], []), ("c",)))
        self.assertEqual(house.sight_of(5), ((), ()))
        self.assertEqual(house.thread_marks_of(5), ("c", "a", "b"))
        self.assertEqual(house.standings_of("ann at oak"), ("v",))

    def test_another_sender_has_other_standings(self):
        self.house.come(letter(5, words=["x"]))
        self.house.come(letter(6, 5))
        for number, told in ((7, {"person": "bob"}), (8, {"house": "elm"})):
            self.house.come(letter(number, **told))
            self.assertEqual(self.house.stamp_of(number).written(), "nothing")

    def test_a_letter_that_joins_several_threads_sees_them_all(self):
        house = House(book_of("rule coming mark a if thread b, thread c"))
        house.play([("letter", letter(1, 20)), ("letter", letter(2)), ("letter", letter(9, 30)), ("mark", 1, "b"),
                    ("mark", 2, "c"), ("mark", 9, "c")])
        house.come(letter(20))
        self.assertEqual(house.sight_of(20), (("b",), ()))
        house.come(letter(10, 2, 20))
        self.assertEqual((house.sight_of(10), house.stamp_of(10)), ((("c", "b"), ()), Stamp(["a"], [])))
        house.come(letter(11, 1, 30))
        self.assertEqual(house.members_of(9), (1, 2, 9, 10, 11, 20))
        self.assertEqual(house.thread_of(30 - 10), 1)

    def test_marks_on_a_number_that_has_not_come_wait(self):
        house = House(book_of("rule coming mark a if thread c", "rule always mark b if thread c"))
        house.come(letter(5, 8))
        self.assertIs(house.put(8, "c"), True)
        self.assertEqual(house.thread_marks_of(5), ())
        house.come(letter(8))
        self.assertEqual((house.sight_of(8), house.stamp_of(8)), (((), ()), Stamp([], [])))
        self.assertEqual((house.marks_of(8), house.marks_of(5)), (("c", "b"), ("b",)))
        house.come(letter(9, 8))
        self.assertEqual(house.stamp_of(9), Stamp(["a"], []))

    def test_gifts_that_the_letter_had_seen_already(self):
        house = House(book_of("rule coming mark b", "rule coming standing v"))
        house.come(letter(5))
        house.come(letter(6, 5))
        self.assertEqual((house.sight_of(6), house.stamp_of(6)), ((("b",), ("v",)), Stamp(["b"], ["v"])))

    def test_an_equal_letter_a_second_time(self):
        self.house.come(letter(5, words=["x"]))
        self.house.come(letter(6, 5))
        before = state(self.house)
        self.assertIs(self.house.come(letter(5, words=["x"])), False)
        self.assertEqual(state(self.house), before)

    def test_a_clash(self):
        self.house.come(letter(5))
        before = state(self.house)
        with self.assertRaises(Clash) as caught:
            self.house.come(letter(5, words=["x"]))
        self.assertEqual(caught.exception.number, 5)
        self.assertEqual(state(self.house), before)

    def test_sights_and_stamps_never_change(self):
        house = House(book_of("rule coming mark a if thread c", "rule always mark b if thread c"))
        house.come(letter(5))
        house.put(5, "c")
        house.edit(book_of("rule coming mark b"))
        self.assertEqual((house.sight_of(5), house.stamp_of(5), house.marks_of(5)), (((), ()), Stamp([], []), ("c",)))

    def test_letters_of_the_house(self):
        for number in (5, 3, 9):
            self.house.come(letter(number))
        self.assertEqual([each.number for each in self.house], [5, 3, 9])
        self.assertEqual(len(self.house), 3)
        self.assertEqual(self.house[3], letter(3))
        self.assertEqual((3 in self.house, 4 in self.house), (True, False))

    def test_numbers_that_have_not_come(self):
        self.house.come(letter(5, 6))
        self.house.put(6, "c")
        asked = (
            "stamp_of", "sight_of", "marks_of", "hands_of", "thread_marks_of", "thread_of", "members_of", "__getitem__",
        )
        for name in asked:
            for number in (6, 7):
                with self.assertRaises(NoLetter) as caught:
                    getattr(self.house, name)(number)
                self.assertEqual(caught.exception.number, number)
            self.assertIsNotNone(getattr(self.house, name)(5))

    def test_a_book_with_a_ring(self):
        with self.assertRaises(RingThroughLacks) as caught:
            House(book_of(RING))
        self.assertEqual(caught.exception.ring, ((1, "a", "a"),))


class Hands(unittest.TestCase):
    def setUp(self):
        self.house = House(book_of("rule coming standing u if test 1"))

    def test_what_deeds_return_the_second_time(self):
        house = self.house
        for _ in range(2):
            told = [house.come(letter(5)), house.put(5, "c"), house.put(7, "c"), house.give("x at y", "u"),
                    house.see(5, True, count=3, device="d")]
            if _ == 0:
                self.assertEqual(told, [True] * 5)
        self.assertEqual(told, [False] * 5)
        self.assertTrue(all(isinstance(each, bool) for each in told))

    def test_marks_and_standings_that_hands_put(self):
        house = self.house
        house.come(letter(5))
        house.put(5, "b")
        house.put(5, "c")
        house.give("ann at oak", "u")
        self.assertEqual((house.hands_of(5), house.marks_of(5)), (("c", "b"), ("c", "b")))
        self.assertEqual(house.standings_of("ann at oak"), ("u",))
        house.come(letter(6))
        self.assertEqual(house.sight_of(6), ((), ("u",)))

    def test_a_standing_in_both_ways(self):
        self.house.come(letter(5, words=["x"]))
        self.assertEqual(self.house.summary()[1], (("ann at oak", (), ("u",)),))
        self.assertIs(self.house.give("ann at oak", "u"), True)
        self.assertEqual(self.house.summary()[1], (("ann at oak", ("u",), ("u",)),))
        self.assertIs(self.house.give("ann at oak", "u"), False)

    def test_words(self):
        house = self.house
        self.assertIs(house.see(5, True, count=1, device="d"), True)
        self.assertIs(house.seen_of(5), True)
        self.assertIs(house.see(5, False, count=1, device="d"), False)
        self.assertIs(house.see(5, False, count=1, device="e"), True)
        self.assertIs(house.seen_of(5), False)
        house.come(letter(5))
        self.assertIs(house.seen_of(5), False)
        self.assertEqual(house.summary()[0][0][-1], (1, "e", False))

    def test_not_by_hand(self):
        thing = object()
        self.house.come(letter(5))
        for name in ("a", "v", "u", "z", "", None, 3, ["c"], ("c",), thing, True, b"c"):
            before = state(self.house)
            for call in (lambda: self.house.put(5, name), lambda: self.house.put(9, name)):
                with self.assertRaises(NotByHand) as caught:
                    call()
                self.assertIs(caught.exception.name, name)
            self.assertEqual(state(self.house), before)
        for name in ("v", "a", "c", "z", None, 3, ["u"], ("u",), thing, False):
            with self.assertRaises(NotByHand) as caught:
                self.house.give("ann at oak", name)
            self.assertIs(caught.exception.name, name)
        self.assertEqual(state(self.house), before)
        self.assertEqual((NotByHand.__bases__, BadEvent.__bases__), ((MailError,), (MailError,)))


class Plays(unittest.TestCase):
    def setUp(self):
        self.house = House(book_of("rule coming mark a if test 1"))

    def test_what_is_returned(self):
        events = [
            ("letter", letter(5)), ("letter", letter(5)), ("mark", 5, "c"), ("mark", 5, "c"), ("mark", 6, "b"),
            ("standing", "x at y", "u"), ("standing", "x at y", "u"), ("seen", 9, True, 1, "d"),
            ("seen", 9, False, 0, "d"),
        ]
        before = list(events)
        self.assertEqual(self.house.play(events), [True, False, True, False, True, True, False, True, False])
        self.assertEqual(events, before)
        self.assertEqual(self.house.play([]), [])

    def test_an_entry_that_is_no_event(self):
        for thing in (None, ("mark", 5), ["letter", letter(7)], ("seen", 5, 1, 0, "d"), letter(7), ("mark", 0, "a")):
            house = House(self.house.book)
            with self.assertRaises(BadEvent) as caught:
                house.play([("letter", letter(5)), ("mark", 5, "c"), thing, ("letter", letter(6))])
            self.assertEqual(caught.exception.index, 2)
            self.assertEqual((len(house), house.hands_of(5)), (1, ("c",)))

    def test_bad_events_are_told_when_they_are_reached(self):
        with self.assertRaises(NotByHand) as caught:
            self.house.play([("letter", letter(5)), ("mark", 5, "a"), None])
        self.assertEqual(caught.exception.name, "a")
        with self.assertRaises(Clash):
            self.house.play([("standing", "x at y", "u"), ("letter", letter(5, words=["x"])), 3])
        self.assertEqual((len(self.house), self.house.standings_of("x at y")), (1, ("u",)))
        with self.assertRaises(BadEvent) as caught:
            self.house.play([3, ("mark", 5, "a")])
        self.assertEqual(caught.exception.index, 0)

    def test_events_that_the_book_does_not_name_are_events(self):
        with self.assertRaises(NotByHand) as caught:
            self.house.play([("standing", "x at y", "nowhere")])
        self.assertEqual(caught.exception.name, "nowhere")


class ChangedNumbers(unittest.TestCase):
    def test_letters_whose_marks_the_latest_deed_changed(self):
        house = House(book_of("rule always mark a if thread c", "rule coming mark b if test 1"))
        self.assertEqual(house.changed_numbers(), [])
        house.come(letter(9))
        self.assertEqual(house.changed_numbers(), [])
        house.come(letter(7, 9, words=["x"]))
        self.assertEqual(house.changed_numbers(), [7])
        house.put(9, "c")
        self.assertEqual(house.changed_numbers(), [7, 9])
        house.put(20, "c")
        self.assertEqual(house.changed_numbers(), [])
        house.edit(book_of())
        self.assertEqual(house.changed_numbers(), [7, 9])
        house.changed_numbers().clear()
        self.assertEqual(house.changed_numbers(), [7, 9])


class Edits(unittest.TestCase):
    FIRST = ("rule coming mark a if test 1", "rule always mark b if thread a")
    SECOND = ("rule always mark c if thread a, test 2", "rule coming mark b if not thread b")

    def setUp(self):
        self.first, self.second = book_of(*self.FIRST), book_of(*self.SECOND)
        self.house = House(self.first)
        self.house.play([
            ("letter", letter(5, words=["x", "x", "x"])), ("letter", letter(6, 5)), ("mark", 6, "c"), ("mark", 9, "b"),
            ("standing", "ann at oak", "u"), ("seen", 5, True, 1, "d"),
        ])

    def test_edits(self):
        house = self.house
        self.assertIsNone(house.edit(self.second))
        self.assertIs(house.book, self.second)
        self.assertEqual((house.marks_of(5), house.marks_of(6)), (("c", "a"), ("c",)))
        self.assertEqual(house.stamp_of(5), Stamp(["a"], []))
        house.come(letter(7, words=["x"]))
        self.assertEqual(house.stamp_of(7), Stamp(["b"], []))
        house.edit(self.first)
        house.come(letter(8, words=["x"]))
        self.assertEqual(house.stamp_of(8), Stamp(["a"], []))
        self.assertEqual((house.marks_of(8), house.marks_of(6)), (("a", "b"), ("c", "b")))

    def test_edits_keep_all_else(self):
        before = self.house.summary(), self.house.deeds(), self.house.sight_of(6)
        self.house.edit(self.second)
        after = self.house.summary(), self.house.deeds(), self.house.sight_of(6)
        self.assertEqual(after[1:], before[1:])
        self.assertEqual([row[:4] for row in after[0][0]], [row[:4] for row in before[0][0]])
        self.assertEqual(after[0][1:], before[0][1:])

    def test_wrong_edits(self):
        ringed = book_of(RING)
        elsewhere = Book.read(GROUND.replace("words 3", "words 4") + "\n" + RING)
        before = state(self.house)
        asked = []
        for call in (self.house.edit, lambda book: self.house.tried(book, asked.append)):
            with self.assertRaises(OtherGround) as caught:
                call(elsewhere)
            self.assertEqual(caught.exception.part, "tests")
            with self.assertRaises(RingThroughLacks) as caught:
                call(ringed)
            self.assertEqual(caught.exception.ring, ((1, "a", "a"),))
        self.assertEqual(state(self.house), before)
        self.assertEqual(asked, [])
        self.assertIs(self.house.book, self.first)

    def test_trials(self):
        before = state(self.house)
        edited = House(self.first)
        edited.play(self.house.deeds())
        edited.edit(self.second)
        asked = []

        def question(house):
            asked.append(house)
            return house.summary(), house.book, house.marks_of(5), house.thread_marks_of(6)

        told = self.house.tried(self.second, question)
        self.assertEqual(told, (edited.summary(), self.second, ("c", "a"), ("c", "a")))
        self.assertIs(asked[0], self.house)
        self.assertEqual(state(self.house), before)
        self.assertIs(self.house.book, self.first)
        self.assertIsNone(self.house.tried(self.second, lambda house: None))

    def test_a_trial_within_a_trial(self):
        third = book_of("rule always mark b")
        rows = []

        def inner(house):
            rows.append((house.book, house.marks_of(6)))
            return "inner"

        def outer(house):
            rows.append((house.book, house.marks_of(6)))
            rows.append(house.tried(third, inner))
            rows.append((house.book, house.marks_of(6)))
            return "outer"

        before = state(self.house)
        self.assertEqual(self.house.tried(self.second, outer), "outer")
        self.assertEqual(rows, [(self.second, ("c",)), (third, ("c", "b")), "inner", (self.second, ("c",))])
        self.assertEqual(state(self.house), before)

    def test_a_question_that_raises(self):
        def question(house):
            self.assertIs(house.book, self.second)
            raise KeyError(house.marks_of(5))

        def outer(house):
            with self.assertRaises(KeyError):
                house.tried(self.second, question)
            return house.book

        before = state(self.house)
        with self.assertRaises(KeyError) as caught:
            self.house.tried(self.second, question)
        self.assertEqual(caught.exception.args, (("c", "a"),))
        self.assertEqual(state(self.house), before)
        self.assertIs(self.house.tried(book_of(), outer).rules, self.house.tried(book_of(), outer).rules)
        self.assertEqual(self.house.tried(book_of(), outer), book_of())
        with self.assertRaises(NoLetter):
            self.house.tried(self.second, lambda house: house.stamp_of(77))
        self.assertEqual(state(self.house), before)

    def test_a_house_goes_on_behind_a_trial(self):
        self.house.tried(self.second, lambda house: house.summary())
        self.assertIs(self.house.come(letter(8, words=["x"])), True)
        self.assertIs(self.house.put(8, "c"), True)
        self.assertEqual(self.house.marks_of(8), ("c", "a", "b"))

    def test_a_letter_that_comes_on_a_trial_book_is_not_asked_for(self):
        # Letters, sights and stamps stay as they are while the question is asked.
        told = self.house.tried(self.second, lambda house: (house.stamp_of(5), house.sight_of(6), house.deeds()))
        self.assertEqual(told, (self.house.stamp_of(5), self.house.sight_of(6), self.house.deeds()))


class Anew(unittest.TestCase):
    def setUp(self):
        self.book = book_of(
            "rule coming mark a if not thread a", "rule coming standing v if thread a",
            "rule always mark b if thread a",
        )
        self.house = House(self.book)
        self.house.play([
            ("letter", letter(6)), ("letter", letter(5, 6)), ("letter", letter(9, 5, person="bob")), ("mark", 5, "c"),
            ("mark", 30, "c"), ("standing", "ann at oak", "u"), ("standing", "x at y", "u"), ("seen", 6, True, 4, "d"),
            ("seen", 31, True, 4, "d"), ("seen", 6, False, 5, "d"),
        ])

    def test_of_no_number(self):
        other = self.house.anew()
        self.assertIsInstance(other, House)
        self.assertIsNot(other, self.house)
        self.assertIs(other.book, self.book)
        self.assertEqual(state(other), state(self.house))

    def test_of_some_numbers(self):
        self.assertEqual([self.house.stamp_of(number) for number in (6, 5, 9)],
                         [Stamp(["a"], ["v"]), Stamp([], ["v"]), Stamp([], ["v"])])
        before = state(self.house)
        other = self.house.anew(5, 5)
        self.assertEqual(state(other), state(self.house.anew(5)))
        self.assertEqual(other.stamp_of(5), Stamp(["a"], ["v"]))
        self.assertEqual(other.stamp_of(5).rules, (1, 2))
        for number in (6, 5, 9):
            self.assertEqual(other.sight_of(number), self.house.sight_of(number))
        self.assertEqual([each.number for each in other], [6, 5, 9])
        self.assertEqual(other.deeds(), self.house.deeds())
        self.assertEqual(other.stamp_of(9), self.house.stamp_of(9))
        self.assertEqual(state(self.house), before)

    def test_standings_are_those_of_the_new_stamps(self):
        book = book_of("rule coming standing v if thread c")
        house = House(book)
        house.play([("letter", letter(5)), ("mark", 5, "c"), ("letter", letter(6, 5)), ("standing", "ann at oak", "u")])
        self.assertEqual(house.standings_of("ann at oak"), ("v", "u"))
        self.assertEqual(house.anew(6).standings_of("ann at oak"), ("u",))
        self.assertEqual(house.anew(5).standings_of("ann at oak"), ("v", "u"))

    def test_the_book_of_this_moment(self):
        second = book_of("rule coming mark b")
        other = self.house.tried(second, lambda house: house.anew(6))
        self.assertEqual((other.stamp_of(6), other.stamp_of(5)), (Stamp(["b"], []), Stamp([], ["v"])))
        self.assertEqual(other.book, second)
        self.house.edit(second)
        self.assertEqual(state(self.house.anew(6)), state(other))

    def test_changing_it_leaves_the_house(self):
        before = state(self.house)
        other = self.house.anew(6)
        other.play([
            ("letter", letter(40, 6)), ("mark", 6, "c"), ("standing", "bob at oak", "u"), ("seen", 6, True, 9, "d"),
        ])
        other.edit(book_of())
        self.assertEqual(state(self.house), before)

    def test_numbers_that_have_not_come(self):
        for numbers, wrong in (((30,), 30), ((5, 31, 30), 31), ((1, 5), 1)):
            with self.assertRaises(NoLetter) as caught:
                self.house.anew(*numbers)
            self.assertEqual(caught.exception.number, wrong)


if __name__ == "__main__":
    unittest.main()
