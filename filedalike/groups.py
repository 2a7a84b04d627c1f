"""Numbers in groups that only grow together."""


class Groups:
    """Groups of numbers; each knows its least number."""

    def __init__(self):
        self._labels = {}
        self._held = {}
        self._leasts = {}

    def bind(self, numbers):
        """Put all these numbers, and the groups that they are in, into one group."""
        for number in numbers:
            if number not in self._labels:
                self._labels[number] = number
                self._held[number] = [number]
                self._leasts[number] = number
        for number in numbers[1:]:
            self._unite(self._labels[numbers[0]], self._labels[number])

    def _unite(self, one, other):
        if one == other:
            return
        # The smaller group moves, so that no number moves often.
        if len(self._held[one]) < len(self._held[other]):
            one, other = other, one
        moved = self._held.pop(other)
        for number in moved:
            self._labels[number] = one
        self._held[one].extend(moved)
        self._leasts[one] = min(self._leasts[one], self._leasts.pop(other))

    def are_bound(self, first, second):
        """Whether two numbers are in one group."""
        label = self._labels.get(first)
        return label is not None and label == self._labels.get(second)

    def least_with(self, number):
        """The least number of the group of a number, or None if it is in none."""
        return self._leasts.get(self._labels.get(number))

    def numbers_with(self, number):
        """The ascending list of the numbers in the group of a number, empty if it is in none."""
        return sorted(self._held.get(self._labels.get(number), []))

    def leasts(self):
        """The ascending list of the least numbers of all groups."""
        return sorted(self._leasts.values())
