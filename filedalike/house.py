"""The mail house: letters come, and hands put marks, give standings and say words."""

from filedalike.errors import MailError
from filedalike.forest import Forest
from filedalike.kept import Kept, NoLetter
from filedalike.kinds import kind_of
from filedalike.lastwords import LastWords
from filedalike.letters import Letter, has_come
from filedalike.names import is_count, is_name, is_number
from filedalike.senders import Senders, is_sender
from filedalike.stamps import empty_stamp, stamp


class NotByHand(MailError):
    """Hands may not put this mark, or give this standing."""

    def __init__(self, name):
        super().__init__("this is not for hands")
        self.name = name


class BadEvent(MailError):
    """An entry of a list of events is no event."""

    def __init__(self, index):
        super().__init__("this is no event")
        self.index = index


def is_event(thing):
    """Whether a thing, of any kind, is an event."""
    if not isinstance(thing, tuple) or not thing or not isinstance(thing[0], str):
        return False
    word = thing[0]
    parts = thing[1:]
    if word == "letter" and len(parts) == 1:
        return isinstance(parts[0], Letter)
    if word == "mark" and len(parts) == 2:
        return is_number(parts[0]) and is_name(parts[1])
    if word == "standing" and len(parts) == 2:
        return is_sender(parts[0]) and is_name(parts[1])
    if word == "seen" and len(parts) == 4:
        number, seen, count, device = parts
        return is_number(number) and isinstance(seen, bool) and is_count(count) and is_name(device)
    return False


class House:
    """A house with a book."""

    def __init__(self, book):
        self.book = book
        self._kept = Kept(book)
        self._letters = {}
        self._sights = {}
        self._stamps = {}
        self._forest = Forest()
        self._senders = Senders(book.standings)
        self._words = LastWords()

    def come(self, letter):
        """A letter comes; whether it is new. Raises Clash."""
        if has_come(self._letters, letter):
            return False
        marks = self._kept.marks_joined(letter)
        standings = self._senders.standings_of(letter.sender)
        kind = kind_of(self.book.tests, letter)
        self._take(letter, (marks, standings), stamp(self.book, kind, marks, standings))
        return True

    def put(self, number, mark):
        """A hand puts a mark on a number, come or not; whether it is new there. Raises NotByHand."""
        if mark not in self.book.hand_marks:
            raise NotByHand(mark)
        return self._kept.put(number, mark)

    def give(self, sender, standing):
        """A hand gives a standing to a sender; whether no hand gave it before. Raises NotByHand."""
        if standing not in self.book.hand_standings:
            raise NotByHand(standing)
        return self._senders.give(sender, standing, by_hand=True)

    def see(self, number, seen, *, count, device):
        """A word is said about a number; whether the last word about it is another one now."""
        return self._words.say(number, seen, count=count, device=device)

    def play(self, events):
        """Do the events of a list in order; a list of what each returned. Raises BadEvent or what an event raises."""
        told = []
        for at, event in enumerate(events):
            if not is_event(event):
                raise BadEvent(at)
            told.append(self._do(event))
        return told

    def edit(self, book):
        """Another book holds from now on. Raises OtherGround, then RingThroughLacks."""
        self._kept.edit(book)
        self.book = book

    def tried(self, book, question):
        """What a question returns that is asked while another book holds. Raises as edit, then as the question."""
        book_before = self.book
        kept_before = self._kept
        self._kept = kept_before.under(book)
        self.book = book
        try:
            return question(self)
        finally:
            self.book = book_before
            self._kept = kept_before

    def anew(self, *numbers):
        """A new house in which the letters of these numbers have their empty stamps. Raises NoLetter."""
        for number in numbers:
            self._check_come(number)
        other = House(self.book)
        for number in list(self._letters):
            letter = self._letters[number]
            stamped = self._stamps[number]
            if number in numbers:
                stamped = empty_stamp(self.book, kind_of(self.book.tests, letter))
            other._take(letter, self._sights[number], stamped)
        for event in self.deeds():
            if event[0] != "letter":
                other._do(event)
        return other

    def stamp_of(self, number):
        """The Stamp of a letter. Raises NoLetter."""
        self._check_come(number)
        return self._stamps[number]

    def sight_of(self, number):
        """The pair of marks and standings that a letter saw. Raises NoLetter."""
        self._check_come(number)
        return self._sights[number]

    def marks_of(self, number):
        """The marks that a letter bears. Raises NoLetter."""
        return self._kept.borne(number)

    def hands_of(self, number):
        """The marks that hands put on a letter. Raises NoLetter."""
        self._check_come(number)
        return self._kept.hand_marks_of(number)

    def thread_marks_of(self, number):
        """The marks that the thread of a letter has. Raises NoLetter."""
        self._check_come(number)
        return self._kept.marks_had(number)

    def thread_of(self, number):
        """The name of the thread of a letter. Raises NoLetter."""
        self._check_come(number)
        return self._kept.threads.name_of(number)

    def members_of(self, number):
        """The numbers of the letters in the thread of a letter. Raises NoLetter."""
        self._check_come(number)
        return self._kept.threads.members(number)

    def changed_numbers(self):
        """The letters whose marks the latest coming, mark of a hand or edit changed, ascending."""
        return sorted({number for number, _, _ in self._kept.changes})

    def standings_of(self, sender):
        """All standings of a sender."""
        return self._senders.standings_of(sender)

    def seen_of(self, number):
        """Whether a number is seen."""
        return self._words.seen(number)

    def summary(self):
        """All that counts in the house: a tuple (letters, senders, waiting) of tuples."""
        letters = [self._letter_row(number) for number in sorted(self._letters)]
        senders = [
            (sender, self._senders.by_hand(sender), self._senders.standings_of(sender))
            for sender in self._senders.names()
        ]
        waiting = [
            (number, self._kept.hand_marks_of(number), self._words.last(number))
            for number in sorted(set(self._kept.hand_numbers() + self._words.numbers()))
            if number not in self._letters
        ]
        return tuple(letters), tuple(senders), tuple(waiting)

    def deeds(self):
        """The events whose set tells the house, a list."""
        letters = [("letter", self._letters[number]) for number in sorted(self._letters)]
        marks = [
            ("mark", number, mark)
            for number in self._kept.hand_numbers()
            for mark in self._kept.hand_marks_of(number)
        ]
        standings = [
            ("standing", sender, standing)
            for sender in self._senders.names()
            for standing in self._senders.by_hand(sender)
        ]
        words = [("seen", number, seen, count, device) for number, seen, count, device in self._words.said()]
        return letters + marks + standings + words

    def _check_come(self, number):
        if number not in self._letters:
            raise NoLetter(number)

    def _do(self, event):
        if event[0] == "letter":
            return self.come(event[1])
        if event[0] == "mark":
            return self.put(event[1], event[2])
        if event[0] == "standing":
            return self.give(event[1], event[2])
        _, number, seen, count, device = event
        return self.see(number, seen, count=count, device=device)

    def _take(self, letter, sight, stamped):
        self._letters[letter.number] = letter
        self._sights[letter.number] = sight
        self._stamps[letter.number] = stamped
        self._forest.put(letter)
        self._kept.come(letter, stamped.marks)
        for standing in stamped.standings:
            self._senders.give(letter.sender, standing)

    def _letter_row(self, number):
        stamped = self._stamps[number]
        return (
            number,
            self._letters[number].written(),
            (stamped.marks, stamped.standings),
            self._kept.hand_marks_of(number),
            self._kept.borne(number),
            self._forest.parent(number),
            self._kept.threads.name_of(number),
            self._words.last(number),
        )

    def __contains__(self, number):
        return number in self._letters

    def __len__(self):
        return len(self._letters)

    def __iter__(self):
        return iter(self._letters.values())

    def __getitem__(self, number):
        self._check_come(number)
        return self._letters[number]
