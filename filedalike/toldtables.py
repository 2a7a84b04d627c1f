"""Told tables of reached views, and what follows from their rows."""

from filedalike.always import NOTHING, View, union_of
from filedalike.kinds import kinds_of_sender, sender_kinds
from filedalike.views import step


class ToldTable:
    """Told threads and told senders with their costs; threads are pairs, senders (sender kind, standings)."""

    def __init__(self, book, threads, senders):
        self.book = book
        self.thread_costs = {(marks, rules): cost for marks, rules, cost in threads}
        self.sender_costs = {(sender_kind, standings): cost for sender_kind, standings, cost in senders}
        self.kinds = {sender: kinds_of_sender(book.tests, sender) for sender in sender_kinds(book.tests)}
        self.lots = least_lots(self.thread_costs)

    def lot_cost(self, view):
        """The cost of the cheapest lot with this view."""
        cost, _ = self.lots[view]
        return cost

    def letter_step(self, joined, standings, kind):
        """The step of a letter at the view of a lot."""
        return step(self.book, View(*joined), standings, kind)


def least_lots(costs):
    """The cheapest lot of each view that some lot has, the shortest one of these: a dict of pairs (cost, lot)."""
    lots = {NOTHING: (0, [])}
    for thread in costs:
        for view, (cost, lot) in list(lots.items()):
            united = union_of(view, thread)
            longer = (cost + costs[thread], lot + [thread])
            if united not in lots or lot_place(longer) < lot_place(lots[united]):
                lots[united] = longer
    return lots


def lot_place(row):
    """What lots of one view are compared by."""
    cost, lot = row
    return cost, len(lot)
