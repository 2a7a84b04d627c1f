"""The search for what rows of events can reach, from the cheapest on."""

from filedalike.kinds import kinds_of_sender, sender_kinds
from filedalike.offers import Offers

THREAD = "thread"
JOINED = "joined"
SENDER = "sender"


class Reach(Offers):
    """The reached places under some moves, with their least costs and grounds.

    A place is (THREAD, view) or (JOINED, view) or (SENDER, (sender kind, standings)). The ground of a thread or a
    sender is its last step; that of a joined view is the pair of a joined view and a thread view that it unites, and
    None for the empty one. What is reached otherwise is told by tuples (cost, place, ground).
    """

    def __init__(self, moves, told=()):
        super().__init__()
        self.book = moves.book
        self._moves = moves
        self._kinds = {sender: kinds_of_sender(self.book.tests, sender) for sender in sender_kinds(self.book.tests)}
        # What is settled so far.
        self._threads = []
        self._senders = []
        self._joined = []
        self._search(told)

    def thread_step(self, view):
        """The last step to a reached thread view."""
        return self.grounds[THREAD, view]

    def sender_step(self, sender_kind, standings):
        """The last step to reached standings."""
        return self.grounds[SENDER, (sender_kind, standings)]

    def lot(self, view):
        """The thread views that a reached joined view is cheapest united from, a list."""
        threads = []
        while view != self._moves.nothing:
            view, thread = self.grounds[JOINED, view]
            threads.append(thread)
        return threads

    def reached(self, side):
        """What is reached on a side, ascending, a list."""
        return sorted([told for other, told in self.costs if other == side])

    def _search(self, told):
        self.offer(0, (JOINED, self._moves.nothing), None)
        for sender_kind in self._kinds:
            self.offer(0, (SENDER, (sender_kind, self._moves.start)), ("start",))
        for cost, place, ground in told:
            self.offer(cost, place, ground)
        place = self.take_next()
        while place is not None:
            self._settle(place)
            place = self.take_next()

    def _settle(self, place):
        side, told = place
        if side == THREAD:
            self._settle_thread(told)
        elif side == JOINED:
            self._settle_joined(told)
        else:
            self._settle_sender(told)

    def _settle_thread(self, thread):
        self._threads.append(thread)
        cost = self.costs[THREAD, thread] + 1
        for mark in self.book.hand_marks:
            self.offer(cost, (THREAD, self._moves.marked(thread, mark)), ("hand", mark, thread))
        for joined in self._joined:
            self._unite(joined, thread)

    def _settle_joined(self, joined):
        self._joined.append(joined)
        for thread in self._threads:
            self._unite(joined, thread)
        for sender in self._senders:
            self._come(joined, sender)

    def _settle_sender(self, sender):
        self._senders.append(sender)
        sender_kind, standings = sender
        cost = self.costs[SENDER, sender] + 1
        for standing in self.book.hand_standings:
            more = self._moves.given(standings, standing)
            self.offer(cost, (SENDER, (sender_kind, more)), ("hand", standing, standings))
        for joined in self._joined:
            self._come(joined, sender)

    def _unite(self, joined, thread):
        cost = self.costs[JOINED, joined] + self.costs[THREAD, thread]
        self.offer(cost, (JOINED, self._moves.united(joined, thread)), (joined, thread))

    def _come(self, joined, sender):
        cost = self.costs[JOINED, joined] + self.costs[SENDER, sender] + 1
        sender_kind, standings = sender
        for kind in self._kinds[sender_kind]:
            _, thread, more = self._moves.arrived(joined, standings, kind)
            self.offer(cost, (THREAD, thread), ("letter", kind, joined, sender_kind, standings))
            self.offer(cost, (SENDER, (sender_kind, more)), ("letter", kind, joined, standings))
