"""The views that any row of events can reach under one book."""

from filedalike.always import View
from filedalike.errors import MailError
from filedalike.kinds import sender_kinds
from filedalike.moves import Moves
from filedalike.reach import JOINED, SENDER, THREAD, Reach
from filedalike.strata import check_ring


class NoView(MailError):
    """A view is not reached."""

    def __init__(self, view):
        super().__init__("this view is not reached")
        self.view = view


class Closure:
    """The reached views of a book, with their least costs and last steps."""

    def __init__(self, book):
        check_ring(book)
        self.book = book
        self._reach = Reach(Moves(book))

    def thread_views(self):
        """The reached thread views, ascending."""
        return [View(*key) for key in self._reach.reached(THREAD)]

    def joined_views(self):
        """The reached joined views, ascending."""
        return [View(*key) for key in self._reach.reached(JOINED)]

    def sender_views(self, sender_kind):
        """The standings that senders of a sender kind can have, ascending. Raises NoView."""
        if sender_kind not in sender_kinds(self.book.tests):
            raise NoView((sender_kind, None))
        return [standings for other, standings in self._reach.reached(SENDER) if other == sender_kind]

    def thread_cost(self, view):
        """The cost of a thread view. Raises NoView."""
        return self._reach.costs[self._place(THREAD, view.key(), view)]

    def joined_cost(self, view):
        """The cost of a joined view. Raises NoView."""
        return self._reach.costs[self._place(JOINED, view.key(), view)]

    def sender_cost(self, sender_kind, standings):
        """The cost of standings. Raises NoView."""
        sender = (sender_kind, standings)
        return self._reach.costs[self._place(SENDER, sender, sender)]

    def thread_step(self, view):
        """The last step to a thread view. Raises NoView."""
        ground = self._reach.grounds[self._place(THREAD, view.key(), view)]
        if ground[0] == "hand":
            word, mark, before = ground
            return word, mark, View(*before)
        word, kind, joined, sender_kind, standings = ground
        return word, kind, View(*joined), sender_kind, standings

    def sender_step(self, sender_kind, standings):
        """The last step to standings. Raises NoView."""
        sender = (sender_kind, standings)
        ground = self._reach.grounds[self._place(SENDER, sender, sender)]
        if ground[0] != "letter":
            return ground
        word, kind, joined, before = ground
        return word, kind, View(*joined), before

    def lot(self, view):
        """The thread views that a joined view is cheapest united from, a list. Raises NoView."""
        _, joined = self._place(JOINED, view.key(), view)
        return [View(*thread) for thread in self._reach.lot(joined)]

    def _place(self, side, told, view):
        if (side, told) not in self._reach.costs:
            raise NoView(view)
        return side, told

    def __contains__(self, view):
        return isinstance(view, View) and (THREAD, view.key()) in self._reach.costs
