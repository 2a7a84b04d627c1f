"""A desk: a house with a kept index, and watches over what queries find."""

from filedalike.errors import MailError
from filedalike.finding import Finder
from filedalike.house import BadEvent, House, is_event
from filedalike.index import Index
from filedalike.papers import search


class NoWatch(MailError):
    """There is no watch of this name."""

    def __init__(self, name):
        super().__init__("there is no watch of this name")
        self.name = name


class DeskFinder(Finder):
    """Finds letters by an index, in which the key of a query without parts is its lead and name."""

    def __init__(self, house, index):
        super().__init__(house)
        self._index = index

    def leaf_numbers(self, query):
        """The numbers of the letters for which a query without parts holds, a list."""
        return self._index.numbers_of((query.LEAD, query.name))


def keys_of(house, number):
    """The keys of a letter: those of the queries without parts that hold for it. A list."""
    letter = house[number]
    return (
        [("all", ""), ("from", letter.sender), ("house", letter.house)]
        + [("word", word) for word in letter.words]
        + [("subject", word) for word in letter.subject]
        + [("mark", mark) for mark in house.marks_of(number)]
        + [("standing", standing) for standing in house.standings_of(letter.sender)]
        + ([("seen", "")] if house.seen_of(number) else [])
    )


class Desk:
    """A house with an index of its letters, which each deed renews where it touches them."""

    def __init__(self, book):
        self.house = House(book)
        self._index = Index()
        # The book for which the index is laid.
        self._book = book
        # For each watch the query and what it found when it was asked last.
        self._watched = {}

    def come(self, letter):
        """A letter comes; whether it is new. Raises Clash."""
        before = self.house.standings_of(letter.sender)
        is_new = self.house.come(letter)
        if is_new:
            self._renew([letter.number] + self.house.changed_numbers())
            self._renew_sender(letter.sender, before)
        return is_new

    def put(self, number, mark):
        """A hand puts a mark on a number; whether it is new there. Raises NotByHand."""
        is_new = self.house.put(number, mark)
        if is_new:
            self._renew(self.house.changed_numbers())
        return is_new

    def give(self, sender, standing):
        """A hand gives a standing to a sender; whether no hand gave it before. Raises NotByHand."""
        before = self.house.standings_of(sender)
        is_new = self.house.give(sender, standing)
        self._renew_sender(sender, before)
        return is_new

    def see(self, number, seen, *, count, device):
        """A word is said about a number; whether the last word about it is another one now."""
        is_new = self.house.see(number, seen, count=count, device=device)
        if is_new and number in self.house:
            self._renew([number])
        return is_new

    def play(self, events):
        """Do the events of a list in order; a list of what each returned. Raises BadEvent or what an event raises."""
        told = []
        for at, event in enumerate(events):
            if not is_event(event):
                raise BadEvent(at)
            told.append(self._do(event))
        return told

    def edit(self, book):
        """Another book holds from now on. Raises OtherGround, then RingThroughLacks."""
        self.house.edit(book)
        self._book = book
        self._renew([letter.number for letter in self.house])

    def find(self, query):
        """The numbers of the letters for which a query holds, ascending, a list."""
        # While the house is on trial, its letters bear other marks than the index has.
        if self.house.book != self._book:
            return search(self.house, query)
        return DeskFinder(self.house, self._index).found(query)

    def first_found(self, query, count=10):
        """The first numbers that a query finds, a list."""
        return self.find(query)[:count]

    def each_found(self, query):
        """The numbers that a query finds, ascending, while the desk is only asked."""
        for number in self.find(query):
            yield number

    def watch(self, name, query):
        """Watch what a query finds, in the place of an older watch of this name."""
        self._watched[name] = (query, [])

    def news(self, name):
        """What a watch finds now and did not find before, and the reverse; a tuple of two lists. Raises NoWatch."""
        self._check_watch(name)
        query, before = self._watched[name]
        now = self.find(query)
        self._watched[name] = (query, now)
        return missing_in(before, now), missing_in(now, before)

    def unwatch(self, name):
        """End a watch. Raises NoWatch."""
        self._check_watch(name)
        del self._watched[name]

    def watches(self):
        """The names of the watches, ascending, a list."""
        return sorted(self._watched)

    def _check_watch(self, name):
        if name not in self._watched:
            raise NoWatch(name)

    def _do(self, event):
        if event[0] == "letter":
            return self.come(event[1])
        if event[0] == "mark":
            return self.put(event[1], event[2])
        if event[0] == "standing":
            return self.give(event[1], event[2])
        _, number, seen, count, device = event
        return self.see(number, seen, count=count, device=device)

    def _renew_sender(self, sender, before):
        if self.house.standings_of(sender) != before:
            self._renew(self._index.numbers_of(("from", sender)))

    def _renew(self, numbers):
        for number in sorted(set(numbers)):
            self._index.lay(number, keys_of(self.house, number))


def missing_in(ones, others):
    """The numbers of the other list that are missing in one, a list."""
    held = {number: True for number in ones}
    return [number for number in others if number not in held]
