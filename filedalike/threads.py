"""Threads: letters that are connected by answers."""

from filedalike.groups import Groups
from filedalike.letters import has_come


class Threads:
    """The threads of the letters that have come."""

    def __init__(self):
        self._letters = {}
        self._groups = Groups()

    @classmethod
    def of(cls, letters):
        """The threads of the letters of a list."""
        threads = cls()
        for letter in letters:
            threads.put(letter)
        return threads

    def put(self, letter):
        """Add a letter; whether it is new. Raises Clash."""
        if has_come(self._letters, letter):
            return False
        self._letters[letter.number] = letter
        self._groups.bind((letter.number,) + letter.answers)
        return True

    def joined(self, letter):
        """The names of the threads that hang together once the letter has come. Raises Clash."""
        has_come(self._letters, letter)
        names = [self.name_of(number) for number in (letter.number,) + letter.answers]
        return tuple(sorted({name for name in names if name is not None}))

    def name_of(self, number):
        """The name of the thread of a number, or None if the number is unknown."""
        return self._groups.least_with(number)

    def members(self, number):
        """The numbers in the thread of a number that have come."""
        return tuple([each for each in self._groups.numbers_with(number) if each in self._letters])

    def absent(self, number):
        """The numbers in the thread of a number that have not come."""
        return tuple([each for each in self._groups.numbers_with(number) if each not in self._letters])

    def names(self):
        """The names of all threads."""
        return tuple(self._groups.leasts())

    def letter_at(self, number):
        """The letter that has come with a number, or None."""
        return self._letters.get(number)

    def summary(self):
        """A list of tuples (name, members, absent), one for each thread."""
        return [(name, self.members(name), self.absent(name)) for name in self.names()]

    def __contains__(self, number):
        return number in self._letters

    def __len__(self):
        return len(self._letters)

    def __iter__(self):
        return iter(self._letters)

    def __eq__(self, other):
        return isinstance(other, Threads) and self._letters == other._letters
