"""The joint views of two books: what both make of the same rows of events."""

from filedalike.always import View
from filedalike.book import check_pair
from filedalike.jointreach import JointReach
from filedalike.reach import JOINED, SENDER, THREAD


class JointViews:
    """The views that two books reach side by side. Callers give the two books alone."""

    def __init__(self, first, second, *, earlier=None):
        check_pair(first, second)
        self.reach = JointReach(first, second, earlier)

    def thread_views(self):
        """The pairs of Views of threads, ascending."""
        return [view_pair(view) for view in self.reach.places.reached(THREAD)]

    def joined_views(self):
        """The pairs of Views that letters can join, ascending."""
        return [view_pair(view) for view in self.reach.places.reached(JOINED)]

    def sender_views(self, sender_kind):
        """The pairs of standings that senders of a sender kind can have, ascending."""
        return [standings for other, standings in self.reach.places.reached(SENDER) if other == sender_kind]

    def followed(self):
        """The followed letters, ascending: tuples (kind, own marks twice, Views twice)."""
        told = {(kind, marks, view): True for kind, marks, view, _ in self.reach.followed_places.costs}
        return [(kind,) + marks + view_pair(view) for kind, marks, view in sorted(told)]

    def after_edit(self):
        """The JointViews of what is reached at the edit of the first book to the second one and behind it."""
        second = self.reach.second
        return JointViews(second, second, earlier=self.reach)


def view_pair(view):
    """The pair of Views that a pair of keys tells."""
    here, there = view
    return View(*here), View(*there)
