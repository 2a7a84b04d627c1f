"""Turning rules of a book, and the sets of turnings that make it free."""

from filedalike.leastsets import blockers, least_of, subsets
from filedalike.orders import judge


def turnable(book):
    """The numbers of the turnable rules of a book, ascending."""
    return tuple([rule.number for rule in book.rules if rule.turnable])


def turn(book, numbers):
    """The Turned of a set of turnable rules. Raises NotTurnable."""
    return Turned(chosen_of(numbers), book.turned(*numbers))


def chosen_of(numbers):
    """Numbers told as a set: ascending, without duplicates."""
    return tuple(sorted(set(numbers)))


class Turned:
    """What turning a set of rules makes of a book."""

    def __init__(self, chosen, book):
        self.chosen = chosen
        self.book = book
        self.ring = book.ring
        self.verdict = judge(book) if self.ring is None else None
        self.reason = "ring"
        if self.verdict is not None:
            self.reason = "free" if self.verdict.free else "orders"

    @property
    def is_good(self):
        """Whether the turned book has no ring and is free."""
        return self.reason == "free"


class Turnings:
    """All sets of turnable rules of a book, judged."""

    def __init__(self, book):
        self.book = book
        numbers = turnable(book)
        self._by_chosen = {chosen: turn(book, chosen) for chosen in subsets(numbers)}

    def turned(self, numbers):
        """The Turned of a set of turnable rules. Raises NotTurnable."""
        self.book.turned(*numbers)
        return self._by_chosen[chosen_of(numbers)]

    def good_sets(self):
        """The good sets in told order."""
        return [chosen for chosen in self._by_chosen if self._by_chosen[chosen].is_good]

    def least_sets(self):
        """The good sets that have no other good set as a part, in told order."""
        return least_of(self.good_sets())

    def needed(self):
        """The numbers that are in every good set, or None if there is no good set."""
        good = self.good_sets()
        if not good:
            return None
        return tuple([number for number in turnable(self.book) if all([number in chosen for chosen in good])])

    def spoiled(self):
        """Tuples (numbers, number) of a good set and a number whose addition makes it bad, a list."""
        good = self.good_sets()
        return [
            (chosen, number)
            for chosen in good
            for number in turnable(self.book)
            if number not in chosen and chosen_of(chosen + (number,)) not in good
        ]

    def mended(self):
        """The turned book of the first of the least sets, or None."""
        least = self.least_sets()
        return self._by_chosen[least[0]].book if least else None

    def stuck(self):
        """The least sets of rules that must not all stay unturned, in told order."""
        return blockers(self.good_sets())

    def __len__(self):
        return len(self._by_chosen)

    def __iter__(self):
        return iter(self._by_chosen.values())
