"""Events that build reached views, step by step."""

from filedalike.kinds import house_of, letter_of
from filedalike.names import ALPHABET


class Fresh:
    """Letter numbers and persons that were not used before."""

    def __init__(self, number):
        self._next_number = number
        self._many_persons = 0

    def take_number(self):
        """The next letter number."""
        self._next_number += 1
        return self._next_number - 1

    def take_person(self):
        """The name of the next person."""
        self._many_persons += 1
        return person_name(self._many_persons)


class Building:
    """Building events in a row; each use of a step is a copy of its own."""

    def __init__(self, closure, fresh):
        self.events = []
        self._closure = closure
        self._tests = closure.book.tests
        self._fresh = fresh

    def build_thread(self, view):
        """Build a thread view; the number of the last built letter of the thread. Raises NoView."""
        last_step = self._closure.thread_step(view)
        if last_step[0] == "hand":
            _, mark, before = last_step
            number = self.build_thread(before)
            self.events.append(("mark", number, mark))
            return number
        _, kind, joined, sender_kind, standings = last_step
        person, house = self.build_sender(sender_kind, standings)
        return self.build_letter(kind, joined, person, house)

    def build_sender(self, sender_kind, standings):
        """Build the standings of a new sender; the pair of its person and house. Raises NoView."""
        last_step = self._closure.sender_step(sender_kind, standings)
        if last_step[0] == "start":
            return self._fresh.take_person(), house_of(self._tests, sender_kind)
        if last_step[0] == "hand":
            _, standing, before = last_step
            person, house = self.build_sender(sender_kind, before)
            self.events.append(("standing", f"{person} at {house}", standing))
            return person, house
        _, kind, joined, before = last_step
        person, house = self.build_sender(sender_kind, before)
        self.build_letter(kind, joined, person, house)
        return person, house

    def build_letter(self, kind, joined, person, house):
        """Build the threads that a letter joins, and then the letter; its number. Raises NoView."""
        return self.build_answer(kind, [], self._closure.lot(joined), person, house)

    def build_answer(self, kind, numbers, lot, person, house):
        """Build a lot of threads, and then a letter that answers these numbers and the threads; its number."""
        answers = list(numbers)
        for view in lot:
            answers.append(self.build_thread(view))
        number = self._fresh.take_number()
        letter = letter_of(self._tests, kind, number=number, person=person, house=house, answers=answers)
        self.events.append(("letter", letter))
        return number


def person_name(count):
    """The name of the person who starts as the first, the second ..: a to z, then aa, ab .."""
    name = ""
    rest = count
    while rest > 0:
        rest, sign = divmod(rest - 1, len(ALPHABET))
        name = ALPHABET[sign] + name
    return name
