"""What letters and hands do to views and standings: under one book, or under two books side by side.

Under one book a view is told by its key; under two books by the pair of the keys, and standings likewise.
"""

from filedalike.always import NOTHING, View, thread_marks, union_of
from filedalike.names import those_in
from filedalike.views import step_seeing


class Moves:
    """The moves under one book."""

    def __init__(self, book):
        self.book = book
        self.nothing = NOTHING
        self.start = ()
        self._had = {}
        self._arrivals = {}

    def united(self, one, other):
        """The union of two views."""
        return union_of(one, other)

    def marked(self, view, mark):
        """The view behind a hand's mark."""
        return union_of(view, ((mark,), ()))

    def given(self, standings, standing):
        """The standings behind a hand's standing."""
        return those_in(self.book.standings, standings + (standing,))

    def arrived(self, joined, standings, kind):
        """What a letter does: the marks of its stamp, and the view and the standings behind it, a tuple."""
        asked = (joined, standings, kind)
        if asked not in self._arrivals:
            after = step_seeing(self.book, View(*joined), self.marks_had(joined), standings, kind)
            self._arrivals[asked] = (after.stamp.marks, after.view.key(), after.standings)
        return self._arrivals[asked]

    def marks_had(self, view):
        """The marks that a thread with a view has."""
        if view not in self._had:
            self._had[view] = thread_marks(self.book, View(*view))
        return self._had[view]


class PairMoves:
    """The moves under two books over one ground, each of which makes its own."""

    def __init__(self, first, second):
        self.book = first
        self.nothing = (NOTHING, NOTHING)
        self.start = ((), ())
        self._first = Moves(first)
        self._second = Moves(second)

    def united(self, one, other):
        """The union of two views."""
        return self._first.united(one[0], other[0]), self._second.united(one[1], other[1])

    def marked(self, view, mark):
        """The view behind a hand's mark."""
        return self._first.marked(view[0], mark), self._second.marked(view[1], mark)

    def given(self, standings, standing):
        """The standings behind a hand's standing."""
        return self._first.given(standings[0], standing), self._second.given(standings[1], standing)

    def arrived(self, joined, standings, kind):
        """What a letter does: the marks of its stamps, and the view and the standings behind it, a tuple."""
        here = self._first.arrived(joined[0], standings[0], kind)
        there = self._second.arrived(joined[1], standings[1], kind)
        return (here[0], there[0]), (here[1], there[1]), (here[2], there[2])

    def marks_had(self, view):
        """The marks that a thread with a view has."""
        return self._first.marks_had(view[0]), self._second.marks_had(view[1])
