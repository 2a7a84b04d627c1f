"""The search for followed letters: what one letter can have under two books, and the thread around it."""

from filedalike.kinds import kinds_of_sender
from filedalike.names import those_in
from filedalike.offers import Offers
from filedalike.reach import JOINED, SENDER, THREAD


class Followed(Offers):
    """The reached followed letters, with their least costs and grounds.

    A place is (kind, own marks, view, company): the marks and the view are pairs, and company is True if the thread
    has another letter. A ground is ("come", joined, sender kind, standings), or behind another followed letter
    ("letter", before, kind, joined, sender kind, standings), ("hand", before, mark) for a mark on the letter itself
    and ("other", before, mark) for one on another letter of its thread. What is reached otherwise is told by tuples
    (cost, place, ground).
    """

    def __init__(self, reach, moves, told=()):
        super().__init__()
        self._reach = reach
        self._moves = moves
        self._joined = reach.reached(JOINED)
        self._letters = letters_of(reach)
        # The cheapest arrivals at joined views, and behind threads, by the view that they give.
        self._arrivals = {}
        self._later = {}
        self._search(told)

    def _search(self, told):
        for cost, place, ground in told:
            self.offer(cost, place, ground)
        for joined in self._joined:
            self._come(joined, self._reach.costs[JOINED, joined], joined != self._moves.nothing)
        # A thread may have letters and still the empty view.
        empty_thread = (THREAD, self._moves.nothing)
        if empty_thread in self._reach.costs:
            self._come(self._moves.nothing, self._reach.costs[empty_thread], True)
        place = self.take_next()
        while place is not None:
            self._go_on(place)
            place = self.take_next()

    def _come(self, joined, joined_cost, company):
        for cost, kind, sender_kind, standings in self._letters:
            marks, view, _ = self._moves.arrived(joined, standings, kind)
            place = (kind, marks, view, company)
            self.offer(joined_cost + cost, place, ("come", joined, sender_kind, standings))

    def _go_on(self, place):
        kind, marks, view, company = place
        cost = self.costs[place]
        later = self._views_behind(view)
        for after in later:
            more, ground = later[after]
            self.offer(cost + more, (kind, marks, after, True), ("letter", place) + ground)
        for mark in self._reach.book.hand_marks:
            after = self._moves.marked(view, mark)
            self.offer(cost + 1, (kind, self._with_mark(marks, mark), after, company), ("hand", place, mark))
            if company:
                self.offer(cost + 1, (kind, marks, after, company), ("other", place, mark))

    def _with_mark(self, marks, mark):
        order = self._reach.book.marks
        return those_in(order, marks[0] + (mark,)), those_in(order, marks[1] + (mark,))

    def _views_behind(self, view):
        # The views that a thread gets by one more letter: a dict of tuples (cost, what the letter does).
        if view not in self._later:
            found = {}
            for joined in self._joined:
                cost = self._reach.costs[JOINED, joined]
                arrivals = self._arrivals_at(self._moves.united(view, joined))
                for after in arrivals:
                    more, kind, sender_kind, standings = arrivals[after]
                    if after not in found or cost + more < found[after][0]:
                        found[after] = (cost + more, (kind, joined, sender_kind, standings))
            self._later[view] = found
        return self._later[view]

    def _arrivals_at(self, joined):
        if joined not in self._arrivals:
            found = {}
            for cost, kind, sender_kind, standings in self._letters:
                _, after, _ = self._moves.arrived(joined, standings, kind)
                if after not in found or cost < found[after][0]:
                    found[after] = (cost, kind, sender_kind, standings)
            self._arrivals[joined] = found
        return self._arrivals[joined]


def letters_of(reach):
    """All letters that can come, with the costs of their senders and themselves: a list of tuples."""
    return [
        (reach.costs[SENDER, (sender_kind, standings)] + 1, kind, sender_kind, standings)
        for sender_kind, standings in reach.reached(SENDER)
        for kind in kinds_of_sender(reach.book.tests, sender_kind)
    ]
