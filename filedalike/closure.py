"""The views that any row of events can reach under one book."""

from filedalike.always import NOTHING, View
from filedalike.errors import MailError
from filedalike.kinds import sender_kinds
from filedalike.reach import JOINED, SENDER, THREAD, Reach
from filedalike.strata import check_ring


class NoView(MailError):
    """A view is not reached."""

    def __init__(self, view):
        super().__init__("this view is not reached")
        self.view = view


class Closure:
    """The reached views of a book, with their least costs and last steps."""

    def __init__(self, book):
        check_ring(book)
        self.book = book
        reach = Reach(book)
        self._costs = reach.costs
        self._grounds = reach.grounds

    def thread_views(self):
        """The reached thread views, ascending."""
        return [View(*key) for key in self._reached(THREAD)]

    def joined_views(self):
        """The reached joined views, ascending."""
        return [View(*key) for key in self._reached(JOINED)]

    def sender_views(self, sender_kind):
        """The standings that senders of a sender kind can have, ascending. Raises NoView."""
        if sender_kind not in sender_kinds(self.book.tests):
            raise NoView((sender_kind, None))
        return [standings for other, standings in self._reached(SENDER) if other == sender_kind]

    def thread_cost(self, view):
        """The cost of a thread view. Raises NoView."""
        return self._costs[self._place(THREAD, view.key(), view)]

    def joined_cost(self, view):
        """The cost of a joined view. Raises NoView."""
        return self._costs[self._place(JOINED, view.key(), view)]

    def sender_cost(self, sender_kind, standings):
        """The cost of standings. Raises NoView."""
        sender = (sender_kind, standings)
        return self._costs[self._place(SENDER, sender, sender)]

    def thread_step(self, view):
        """The last step to a thread view. Raises NoView."""
        ground = self._grounds[self._place(THREAD, view.key(), view)]
        if ground[0] == "hand":
            word, mark, before = ground
            return word, mark, View(*before)
        word, kind, joined, sender_kind, standings = ground
        return word, kind, View(*joined), sender_kind, standings

    def sender_step(self, sender_kind, standings):
        """The last step to standings. Raises NoView."""
        sender = (sender_kind, standings)
        ground = self._grounds[self._place(SENDER, sender, sender)]
        if ground[0] != "letter":
            return ground
        word, kind, joined, before = ground
        return word, kind, View(*joined), before

    def lot(self, view):
        """The thread views that a joined view is cheapest united from, a list. Raises NoView."""
        place = self._place(JOINED, view.key(), view)
        threads = []
        while place != (JOINED, NOTHING):
            joined, thread = self._grounds[place]
            threads.append(View(*thread))
            place = (JOINED, joined)
        return threads

    def _reached(self, side):
        return sorted([told for other, told in self._costs if other == side])

    def _place(self, side, told, view):
        if (side, told) not in self._costs:
            raise NoView(view)
        return side, told

    def __contains__(self, view):
        return isinstance(view, View) and (THREAD, view.key()) in self._costs
