"""Keys of numbers, kept so that the numbers of a key are soon found."""


class Index:
    """A set of keys for each of some numbers."""

    def __init__(self):
        self._keys = {}
        self._numbers = {}

    def lay(self, number, keys):
        """Give a number these keys in the place of those it has; whether the set of its keys changed."""
        before = self._keys.get(number, {})
        after = {key: True for key in keys}
        for key in before:
            if key not in after:
                self._take_out(key, number)
        for key in after:
            if key not in before:
                numbers = self._numbers.get(key, {})
                numbers[number] = True
                self._numbers[key] = numbers
        if after:
            self._keys[number] = after
        else:
            self._keys.pop(number, None)
        return before != after

    def numbers_of(self, key):
        """The numbers that have a key, ascending, a list."""
        return sorted(self._numbers.get(key, {}))

    def how_many(self, key):
        """How many numbers have a key."""
        return len(self._numbers.get(key, {}))

    def all_keys(self, lead):
        """The keys that numbers have and that are tuples with this first item, ascending, a list."""
        return sorted([key for key in self._numbers if isinstance(key, tuple) and key[:1] == (lead,)])

    def _take_out(self, key, number):
        numbers = self._numbers[key]
        del numbers[number]
        if not numbers:
            del self._numbers[key]

    def __contains__(self, number):
        return number in self._keys

    def __len__(self):
        return len(self._keys)

    def __eq__(self, other):
        return isinstance(other, Index) and self._keys == other._keys
