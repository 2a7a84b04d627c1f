"""What has happened, in plain rows; threads, views and standings are worked out anew from them each time."""

from filedalike.always import view_of
from filedalike.kinds import kind_of
from filedalike.letters import has_come
from filedalike.names import those_in


class Records:
    """The letters that came, with their stamps, and the marks and standings that hands gave."""

    def __init__(self):
        self._letters = {}
        self._stamps = {}
        self._put = []
        self._given = []

    def knows(self, letter):
        """Whether an equal letter has come. Raises Clash."""
        return has_come(self._letters, letter)

    def come(self, letter, stamped):
        """A new letter has come and has this stamp."""
        self._letters[letter.number] = letter
        self._stamps[letter.number] = stamped

    def put(self, number, mark):
        """A hand has put a mark on a number."""
        self._put.append((number, mark))

    def give(self, sender, standing):
        """A hand has given a standing to a sender."""
        self._given.append((sender, standing))

    def letters(self):
        """The letters that have come, ascending by number, a list."""
        return [self._letters[number] for number in sorted(self._letters)]

    def senders(self):
        """The senders of letters and those to whom hands gave standings, ascending, a list."""
        return sorted(set([letter.sender for letter in self.letters()] + [sender for sender, _ in self._given]))

    def own_marks(self, number):
        """The marks of the stamp of a letter and those that hands put on it, a list."""
        return list(self._stamps[number].marks) + [mark for other, mark in self._put if other == number]

    def standings_of(self, book, sender):
        """All standings of a sender, in book order."""
        given = [standing for other, standing in self._given if other == sender]
        for letter in self.letters():
            if letter.sender == sender:
                given = given + list(self._stamps[letter.number].standings)
        return those_in(book.standings, given)

    def view_with(self, book, letter):
        """The view of all letters that hang together with a letter, come or not."""
        parts = [(kind_of(book.tests, each), self.own_marks(each.number)) for each in self._together_with(letter)]
        return view_of(book, parts)

    def _together_with(self, letter):
        known = {number: True for number in (letter.number,) + letter.answers}
        together = []
        apart = self.letters()
        while True:
            found = [each for each in apart if is_linked(each, known)]
            if not found:
                return together
            together = together + found
            apart = [each for each in apart if not is_linked(each, known)]
            known = {number: True for each in [letter] + together for number in (each.number,) + each.answers}


def is_linked(letter, known):
    """Whether a letter or one that it answers is among known numbers."""
    return any([number in known for number in (letter.number,) + letter.answers])
