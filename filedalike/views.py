"""What the arrival of one letter does to a view and to the standings of its sender."""

from filedalike.always import View, fitting, thread_marks
from filedalike.names import those_in
from filedalike.stamps import stamp


class Step:
    """What the arrival of a letter does; step makes it."""

    def __init__(self, stamped, view, standings):
        self.stamp = stamped
        self.view = view
        self.standings = standings


def step(book, view, standings, kind):
    """The step of a letter that joins a thread with this view. Raises RingThroughLacks."""
    return step_seeing(book, view, thread_marks(book, view), standings, kind)


def step_seeing(book, view, marks_had, standings, kind):
    """The step of a letter that joins a thread with this view, which has these marks."""
    stamped = stamp(book, kind, marks_had, standings)
    return Step(
        stamped,
        view | View(stamped.marks, fitting(book, kind)),
        those_in(book.standings, tuple(standings) + stamped.standings),
    )
