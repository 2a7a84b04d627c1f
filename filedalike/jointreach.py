"""All that two books reach side by side, also behind an edit of the first book to the second one."""

from filedalike.always import borne
from filedalike.followed import Followed
from filedalike.moves import PairMoves
from filedalike.reach import SENDER, THREAD, Reach


class JointReach:
    """What is reached under two books; behind an edit both are the second book, and earlier is what was before it."""

    def __init__(self, first, second, earlier):
        self.first = first
        self.second = second
        self.earlier = earlier
        self._moves = PairMoves(first, second)
        self.places = Reach(self._moves, edited_places(earlier))
        self.followed_places = Followed(self.places, self._moves, edited_letters(earlier))

    def edited(self):
        """What is reached at the edit of the first book and behind it."""
        return JointReach(self.second, self.second, self)

    def unlike_letter(self):
        """The cheapest followed letter that bears unlike marks, or None."""
        # The letters stand in the order in which they were taken, which is that of their costs.
        for place in self.followed_places.costs:
            here, there = self.borne_by(place)
            if here != there:
                return place
        return None

    def borne_by(self, place):
        """What a followed letter bears under the first book and under the second one."""
        kind, marks, view, _ = place
        had = self._moves.marks_had(view)
        return borne(self.first, kind, marks[0], had[0]), borne(self.second, kind, marks[1], had[1])

    def unlike_sender(self):
        """The cheapest (sender kind, standings) in which the standings are unlike, or None."""
        for side, told in self.places.costs:
            if side == SENDER and told[1][0] != told[1][1]:
                return told
        return None


def edited_view(view):
    """A pair of views when the first book becomes the second one: the second fitting rules are those of both."""
    return (view[0][0], view[1][1]), view[1]


def edited_places(earlier):
    """What is reached at an edit, as Reach is told it, a list."""
    found = []
    if earlier is not None:
        for place in earlier.places.costs:
            side, told = place
            cost = earlier.places.costs[place]
            if side == THREAD:
                found.append((cost, (THREAD, edited_view(told)), ("edit", told)))
            elif side == SENDER:
                found.append((cost, place, ("edit", told[1])))
    return found


def edited_letters(earlier):
    """The followed letters that are reached at an edit, as Followed is told them, a list."""
    found = []
    if earlier is not None:
        for place in earlier.followed_places.costs:
            kind, marks, view, company = place
            cost = earlier.followed_places.costs[place]
            found.append((cost, (kind, marks, edited_view(view), company), ("edit", place)))
    return found
