"""Whether an edit of a book leaves a seam, and which kinds of letters it changes."""

from filedalike.book import check_pair
from filedalike.building import Fresh
from filedalike.doubts import Doubt, events_of
from filedalike.jointrows import JointBuilding
from filedalike.jointviews import JointViews
from filedalike.kinds import kinds
from filedalike.stamps import empty_stamp


class Seamless:
    """Behind the edit all letters bear what they would bear if the second book had held from the beginning."""

    @property
    def seamless(self):
        """True."""
        return True


class Seam:
    """The edit is seen: rows of events before and after it, and a letter that bears unlike marks."""

    def __init__(self, doubt, rows):
        self.before = events_of(rows, 0)
        self.after = events_of(rows, 1)
        self.number = doubt.number
        self.first, self.second = doubt.told_by_houses(rows)

    @property
    def seamless(self):
        """False."""
        return False


def edit_seam(first, second):
    """Whether the edit of a book to another one is seamless. Raises OtherGround, then RingThroughLacks."""
    joint = JointViews(first, second).after_edit().reach
    letter = joint.unlike_letter()
    if letter is None:
        return Seamless()
    building = JointBuilding(joint, Fresh(1))
    number, _ = building.build_followed(letter)
    doubt = Doubt(first, second, is_edit=True, number=number)
    rows = [(0, event) for event in building.before.events] + [(1, event) for event in building.events]
    return Seam(doubt, doubt.needed(rows))


def changed_kinds(first, second):
    """The possible kinds with unequal stamps in the empty houses, a list. Raises OtherGround, then RingThroughLacks."""
    check_pair(first, second)
    return [kind for kind in kinds(first.tests) if empty_stamp(first, kind) != empty_stamp(second, kind)]
