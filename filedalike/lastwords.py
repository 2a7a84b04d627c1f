"""Words about letter numbers, of which the last one counts."""


class LastWords:
    """The last word about each number."""

    def __init__(self, *words):
        self._last = greatest_words(words)

    def say(self, number, seen, *, count, device):
        """Say a word; whether the last word about the number is another one now."""
        word = (count, device, seen)
        last = self._last.get(number)
        if last is not None and last >= word:
            return False
        self._last[number] = word
        return True

    def last(self, number):
        """The last word about a number, a tuple (count, device, seen), or None."""
        return self._last.get(number)

    def seen(self, number):
        """Whether the last word about a number says so."""
        word = self._last.get(number)
        return word is not None and word[2]

    def numbers(self):
        """The numbers about which there are words, ascending."""
        return sorted(self._last)

    def said(self):
        """The last words as tuples (number, seen, count, device), ascending by number, a list."""
        return [(number, seen, count, device) for number, (count, device, seen) in sorted(self._last.items())]

    def __or__(self, other):
        words = self.said() + other.said()
        return LastWords(*words)

    def __eq__(self, other):
        return isinstance(other, LastWords) and self._last == other._last


def greatest_words(words):
    """The greatest word about each number, a dict of tuples (count, device, seen)."""
    found = {}
    for number, seen, count, device in words:
        word = (count, device, seen)
        found[number] = max(word, found.get(number, word))
    return found
