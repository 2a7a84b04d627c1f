"""The search for the reached views of a book, from the cheapest on."""

from heapq import heappop, heappush

from filedalike.always import NOTHING, View, thread_marks, union_of
from filedalike.kinds import kinds_of_sender, sender_kinds
from filedalike.names import those_in
from filedalike.views import step_seeing

THREAD = "thread"
JOINED = "joined"
SENDER = "sender"


class Reach:
    """The reached places of a book with their least costs and grounds.

    A place is (THREAD, key) or (JOINED, key) with the key of a view, or (SENDER, (sender kind, standings)). The
    ground of a thread or a sender is its last step, with keys in place of views; that of a joined view is the pair
    of a joined view and a thread view that it unites, and None for the empty one.
    """

    def __init__(self, book):
        self.costs = {}
        self.grounds = {}
        self._book = book
        self._kinds = {sender: kinds_of_sender(book.tests, sender) for sender in sender_kinds(book.tests)}
        self._queue = []
        self._offered = {}
        # What is settled so far: threads and senders in lists, joined views with the marks that they have.
        self._threads = []
        self._senders = []
        self._joined = {}
        self._search()

    def _search(self):
        self._offer(0, (JOINED, NOTHING), None)
        for sender_kind in self._kinds:
            self._offer(0, (SENDER, (sender_kind, ())), ("start",))
        # Nothing costs less than what it is made from, so the cheapest offer that waits is never undercut.
        while self._queue:
            cost, place = heappop(self._queue)
            if place not in self.costs:
                self.costs[place] = cost
                self._settle(cost, place)

    def _offer(self, cost, place, ground):
        if place not in self._offered or cost < self._offered[place]:
            self._offered[place] = cost
            self.grounds[place] = ground
            heappush(self._queue, (cost, place))

    def _settle(self, cost, place):
        side, told = place
        if side == THREAD:
            self._settle_thread(cost, told)
        elif side == JOINED:
            self._settle_joined(told)
        else:
            self._settle_sender(cost, told)

    def _settle_thread(self, cost, thread):
        self._threads.append(thread)
        for mark in self._book.hand_marks:
            self._offer(cost + 1, (THREAD, union_of(thread, ((mark,), ()))), ("hand", mark, thread))
        for joined in self._joined:
            self._unite(joined, thread)

    def _settle_joined(self, joined):
        self._joined[joined] = thread_marks(self._book, View(*joined))
        for thread in self._threads:
            self._unite(joined, thread)
        for sender in self._senders:
            self._come(joined, sender)

    def _settle_sender(self, cost, sender):
        self._senders.append(sender)
        sender_kind, standings = sender
        for standing in self._book.hand_standings:
            more = those_in(self._book.standings, standings + (standing,))
            self._offer(cost + 1, (SENDER, (sender_kind, more)), ("hand", standing, standings))
        for joined in self._joined:
            self._come(joined, sender)

    def _unite(self, joined, thread):
        cost = self.costs[JOINED, joined] + self.costs[THREAD, thread]
        self._offer(cost, (JOINED, union_of(joined, thread)), (joined, thread))

    def _come(self, joined, sender):
        cost = self.costs[JOINED, joined] + self.costs[SENDER, sender] + 1
        sender_kind, standings = sender
        for kind in self._kinds[sender_kind]:
            after = step_seeing(self._book, View(*joined), self._joined[joined], standings, kind)
            self._offer(cost, (THREAD, after.view.key()), ("letter", kind, joined, sender_kind, standings))
            self._offer(cost, (SENDER, (sender_kind, after.standings)), ("letter", kind, joined, standings))
