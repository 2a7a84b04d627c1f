"""A slow model of the reached views and their costs: the six rules are applied until no cost gets less."""

from tests.housemodel import always_numbers, in_order, stamp_pair
from tests.models import ALPHABET, marks_had, possible_kinds

NOTHING = ((), ())


def united(one, other):
    return tuple(sorted({*one[0], *other[0]})), tuple(sorted({*one[1], *other[1]}))


def sender_part_of(tests, kind):
    return tuple(entry if test.LEAD == "house" else None for test, entry in zip(tests, kind))


def sender_kinds_of(tests):
    houses = {house for test in tests if test.LEAD == "house" for house in test.houses} | set(ALPHABET)
    return sorted({
        tuple(house in test.houses if test.LEAD == "house" else None for test in tests) for house in houses
    })


class SlowReach:
    """The least costs of the reached thread views, joined views and (sender kind, standings)."""

    def __init__(self, book):
        self.book = book
        self.kinds = {
            sender: [kind for kind in possible_kinds(book.tests) if sender_part_of(book.tests, kind) == sender]
            for sender in sender_kinds_of(book.tests)
        }
        self.threads, self.joined, self.senders = {}, {NOTHING: 0}, {(sender, ()): 0 for sender in self.kinds}
        self.had = {}
        while self.relax_all():
            pass

    def step(self, joined, standings, kind):
        """The stamp, the view and the standings behind a letter."""
        if joined not in self.had:
            self.had[joined] = marks_had(self.book, *joined)
        pair, _ = stamp_pair(self.book, kind, self.had[joined], standings)
        view = united(joined, (pair[0], always_numbers(self.book, kind)))
        return pair, view, in_order(self.book.standings, {*standings, *pair[1]})

    def relax_all(self):
        changed = False

        def relax(costs, place, cost):
            nonlocal changed
            if cost < costs.get(place, cost + 1):
                costs[place] = cost
                changed = True

        for joined, cost in list(self.joined.items()):
            for thread, more in list(self.threads.items()):
                relax(self.joined, united(joined, thread), cost + more)
        for joined, cost in list(self.joined.items()):
            for (sender, standings), more in list(self.senders.items()):
                for kind in self.kinds[sender]:
                    _, view, after = self.step(joined, standings, kind)
                    relax(self.threads, view, cost + more + 1)
                    relax(self.senders, (sender, after), cost + more + 1)
        for thread, cost in list(self.threads.items()):
            for mark in self.book.hand_marks:
                relax(self.threads, united(thread, ((mark,), ())), cost + 1)
        for (sender, standings), cost in list(self.senders.items()):
            for standing in self.book.hand_standings:
                relax(self.senders, (sender, in_order(self.book.standings, {*standings, standing})), cost + 1)
        return changed

    def departures(self):
        """All departures in order, with keys in place of views."""
        found = []
        for kind in possible_kinds(self.book.tests):
            alone, _, _ = self.step(NOTHING, (), kind)
            for joined, cost in self.joined.items():
                for (sender, standings), more in self.senders.items():
                    is_other = self.step(joined, standings, kind)[0] != alone
                    if sender == sender_part_of(self.book.tests, kind) and is_other:
                        found.append((cost + more, kind, joined, standings))
        return sorted(found)
