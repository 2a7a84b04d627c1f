"""Events that build reached views, step by step."""

from filedalike.kinds import house_of, letter_of
from filedalike.names import ALPHABET


class Building:
    """Building events in a row; each use of a step is a copy of its own."""

    def __init__(self, closure, number):
        self.events = []
        self._closure = closure
        self._tests = closure.book.tests
        self._next_number = number
        self._many_persons = 0

    def build_thread(self, view):
        """Build a thread view; the number of the last built letter of the thread. Raises NoView."""
        last_step = self._closure.thread_step(view)
        if last_step[0] == "hand":
            _, mark, before = last_step
            number = self.build_thread(before)
            self.events.append(("mark", number, mark))
            return number
        _, kind, joined, sender_kind, standings = last_step
        person, house = self.build_sender(sender_kind, standings)
        return self.build_letter(kind, joined, person, house)

    def build_sender(self, sender_kind, standings):
        """Build the standings of a new sender; the pair of its person and house. Raises NoView."""
        last_step = self._closure.sender_step(sender_kind, standings)
        if last_step[0] == "start":
            self._many_persons += 1
            return person_name(self._many_persons), house_of(self._tests, sender_kind)
        if last_step[0] == "hand":
            _, standing, before = last_step
            person, house = self.build_sender(sender_kind, before)
            self.events.append(("standing", f"{person} at {house}", standing))
            return person, house
        _, kind, joined, before = last_step
        person, house = self.build_sender(sender_kind, before)
        self.build_letter(kind, joined, person, house)
        return person, house

    def build_letter(self, kind, joined, person, house):
        """Build the threads that a letter joins, and then the letter; its number. Raises NoView."""
        answers = []
        for view in self._closure.lot(joined):
            answers.append(self.build_thread(view))
        number = self._next_number
        self._next_number += 1
        letter = letter_of(self._tests, kind, number=number, person=person, house=house, answers=answers)
        self.events.append(("letter", letter))
        return number


def person_name(count):
    """The name of the person who starts as the first, the second ..: a to z, then aa, ab .."""
    name = ""
    rest = count
    while rest > 0:
        rest, sign = divmod(rest - 1, len(ALPHABET))
        name = ALPHABET[sign] + name
    return name
