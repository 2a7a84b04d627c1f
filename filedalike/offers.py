"""Offers of places at costs, of which the cheapest is taken first."""

from heapq import heappop, heappush


class Offers:
    """Places that are taken with their least costs, and the grounds of the offers that were taken."""

    def __init__(self):
        self.costs = {}
        self.grounds = {}
        self._queue = []
        self._offered = {}

    def offer(self, cost, place, ground):
        """Offer a place at a cost, which is more than that of no place that is taken already."""
        if place not in self._offered or cost < self._offered[place]:
            self._offered[place] = cost
            self.grounds[place] = ground
            heappush(self._queue, (cost, place))

    def take_next(self):
        """Take the cheapest place that waits, and return it; None if no place waits."""
        # Nothing costs less than what it is made from, so the cheapest offer that waits is never undercut.
        while self._queue:
            cost, place = heappop(self._queue)
            if place not in self.costs:
                self.costs[place] = cost
                return place
        return None
