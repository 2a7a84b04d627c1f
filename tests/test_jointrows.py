"""Rows that build what two books reach, and which of their events are needed: [87] to [90], beside the other tests."""

import random
import unittest

from filedalike.book import Book
from filedalike.building import Fresh
from filedalike.doubts import Doubt
from filedalike.house import House
from filedalike.jointreach import JointReach
from filedalike.jointrows import JointBuilding
from filedalike.kinds import kind_of
from filedalike.letters import Letter
from filedalike.reach import SENDER, THREAD
from tests.housemodel import always_numbers, in_order
from tests.jointmodel import random_pair

GROUND = "mark a\nmark b by hand\ntest word x"
# A letter that passes the test keeps its company unstamped only if it joins it when it comes.
COMPANY = (
    "rule always mark a if test 1", "rule coming mark a if thread a", "rule coming mark a if thread b",
)


def book_of(*rows):
    return Book.read("\n".join((GROUND,) + rows))


def own_marks(house, number):
    return in_order(house.book.marks, set(house.stamp_of(number).marks) | set(house.hands_of(number)))


def view_key(house, number):
    """The key of the view of a letter's thread, from what is told of its letters."""
    members = house.members_of(number)
    marks = {mark for each in members for mark in own_marks(house, each)}
    kinds = [kind_of(house.book.tests, house[each]) for each in members]
    return tuple(sorted(marks)), tuple(sorted({rule for kind in kinds for rule in always_numbers(house.book, kind)}))


class Building(unittest.TestCase):
    def houses_of(self, joint, building):
        """The houses that play what was built, in one of which the book may be edited."""
        if joint.earlier is None:
            self.assertIsNone(building.before)
            houses, before = (House(joint.first), House(joint.second)), []
        else:
            houses, before = (House(joint.earlier.first), House(joint.second)), building.before.events
        for house in houses:
            house.play(before)
        if joint.earlier is not None:
            houses[0].edit(joint.second)
        for house in houses:
            house.play(building.events)
        return houses, len(before) + len(building.events)

    def check(self, joint):
        for place, cost in joint.followed_places.costs.items():
            building = JointBuilding(joint, Fresh(1))
            number, other = building.build_followed(place)
            houses, many = self.houses_of(joint, building)
            kind, marks, views, company = place
            self.assertEqual(many, cost)
            for house, own, view in zip(houses, marks, views):
                self.assertEqual(kind_of(house.book.tests, house[number]), kind)
                self.assertEqual(own_marks(house, number), own)
                self.assertEqual(view_key(house, number), view)
                self.assertIs(len(house.members_of(number)) > 1, company)
                self.assertTrue(other is None or other != number and other in house.members_of(number))
                self.assertIs(other is not None, company)
        for (side, told), cost in joint.places.costs.items():
            building = JointBuilding(joint, Fresh(1))
            if side == THREAD:
                number = building.build_thread(told)
                houses, many = self.houses_of(joint, building)
                self.assertEqual(tuple(view_key(house, number) for house in houses), told)
                self.assertEqual(many, cost)
            if side == SENDER:
                person, home = building.build_sender(*told)
                houses, many = self.houses_of(joint, building)
                standings = tuple(house.standings_of(f"{person} at {home}") for house in houses)
                self.assertEqual(standings, told[1])
                self.assertEqual(many, cost)

    def test_all_that_is_reached_at_random(self):
        rng = random.Random(131)
        for _ in range(60):
            joint = JointReach(*random_pair(rng), None)
            self.check(joint)
            self.check(joint.edited())

    def test_company_with_the_empty_view(self):
        book = book_of(*COMPANY)
        joint = JointReach(book, book, None)
        view = (("b",), (1,))
        place = ((True,), ((), ()), (view, view), True)
        self.assertIn(place, joint.followed_places.costs)
        building = JointBuilding(joint, Fresh(1))
        number, other = building.build_followed(place)
        first, second, third = building.events
        self.assertEqual((first[1].number, second[1].answers, third), (other, (other,), ("mark", other, "b")))
        self.assertEqual(second[1].number, number)
        self.check(joint)
        self.check(JointReach(book_of(), book, None).edited())

    def test_numbers_and_persons_are_fresh(self):
        books = book_of("rule coming mark a if test 1"), book_of("rule coming mark a if thread b")
        joint = JointReach(*books, None).edited()
        building = JointBuilding(joint, Fresh(40))
        for place in joint.followed_places.costs:
            building.build_followed(place)
        events = building.before.events + building.events
        letters = [event[1] for event in events if event[0] == "letter"]
        self.assertEqual(sorted(letter.number for letter in letters), list(range(40, 40 + len(letters))))
        self.assertEqual(len({letter.sender for letter in letters}), len(letters))
        self.assertTrue(building.before.events and building.events)


class Doubts(unittest.TestCase):
    def letter(self, number, *answers, words=()):
        return "letter", Letter(number, "ann", "oak", answers=answers, words=words)

    def test_events_that_are_not_needed_are_left_out(self):
        doubt = Doubt(book_of("rule coming mark a if thread b"), book_of(), number=9)
        rows = [
            (0, self.letter(5)), (0, ("mark", 5, "b")), (0, self.letter(6)), (0, self.letter(7, 5)),
            (0, ("mark", 6, "b")), (0, self.letter(9, 5, 6)), (0, ("mark", 9, "b")), (0, self.letter(10, 9)),
        ]
        before = list(rows)
        needed = doubt.needed(rows)
        self.assertEqual(rows, before)
        self.assertEqual(doubt.told_by_houses(needed), (("a",), ()))
        self.assertEqual([row for row in rows if row in needed], needed)
        # The letter, and one letter with the mark.
        self.assertEqual(len(needed), 3)

    def test_an_event_that_is_needed_beside_another_one(self):
        # The second letter is needed only while the first one is there.
        one = book_of("rule coming mark a if not thread b, test 1")
        other = book_of("rule coming mark a if thread b, test 1")
        doubt = Doubt(one, other, number=9)
        rows = [
            (0, self.letter(9, words=["x"])), (0, self.letter(8)), (0, ("mark", 8, "b")),
            (0, ("seen", 9, True, 1, "d")),
        ]
        self.assertEqual(doubt.needed(rows), rows[:1])
        self.assertEqual(doubt.needed(rows[1:3] + [(0, self.letter(9, 8, words=["x"]))])[-1][1][1].number, 9)
        for found in (doubt.needed(rows[1:] + rows[:1]), doubt.needed(rows[::-1])):
            self.assertEqual(found, rows[:1])

    def test_rows_before_and_behind_an_edit(self):
        doubt = Doubt(book_of("rule coming mark a"), book_of(), is_edit=True, number=9)
        late, early = (1, self.letter(9)), (0, self.letter(9))
        self.assertEqual(doubt.told_by_houses([late]), ((), ()))
        self.assertEqual(doubt.told_by_houses([early, (1, self.letter(5))]), (("a",), ()))
        self.assertEqual(doubt.needed([(1, self.letter(5, 9)), early]), [early])
        self.assertEqual(doubt.told_by_houses([]), (None, None))

    def test_senders(self):
        book = Book.read("standing s\nstanding t by hand\nrule coming standing s if sender t")
        doubt = Doubt(book, Book.read("standing s\nstanding t by hand"), sender="ann at oak")
        given = (0, ("standing", "ann at oak", "t"))
        idle = (0, ("standing", "bob at oak", "t"))
        rows = [(0, self.letter(5)), given, idle, (0, self.letter(6)), (0, self.letter(7))]
        needed = doubt.needed(rows)
        self.assertEqual((len(needed), needed[0]), (2, given))
        self.assertEqual(doubt.told_by_houses(needed), (("s", "t"), ("t",)))


if __name__ == "__main__":
    unittest.main()
