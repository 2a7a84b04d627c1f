"""Letters with their marks under a book, kept so that a change renews only what it touches."""

from filedalike.always import View, always_rules, borne, fitting, thread_marks
from filedalike.errors import MailError
from filedalike.kinds import kind_of
from filedalike.names import those_in
from filedalike.strata import check_ring
from filedalike.support import NoMark, derivation, wish_bar
from filedalike.threads import Threads


class NoLetter(MailError):
    """No letter with this number has come."""

    def __init__(self, number):
        super().__init__("no letter with this number has come")
        self.number = number


class Kept:
    """Letters, the marks of their stamps, hand marks and a book."""

    def __init__(self, book):
        check_ring(book)
        self.book = book
        self.threads = Threads()
        self.changes = ()
        self._kinds = {}
        self._stamp_marks = {}
        self._hand_marks = {}
        # The view of each thread by its name, the marks had by the keys of views, the marks borne by letters.
        self._views = {}
        self._had = {}
        self._borne = {}

    def come(self, letter, marks=()):
        """A letter comes with the marks of its stamp; whether it is new. Raises NoMark, then Clash."""
        self._check_marks(marks)
        met = self.threads.joined(letter)
        number = letter.number
        if number in self.threads:
            self.changes = ()
            return False
        self._kinds[number] = kind_of(self.book.tests, letter)
        self._stamp_marks[number] = those_in(self.book.marks, marks)
        view = self._union(met) | self._own_view(number)
        touched = self._touched(met, view)
        self.threads.put(letter)
        for name in met:
            del self._views[name]
        self._views[self.threads.name_of(number)] = view
        self._renew([number] + touched)
        return True

    def put(self, number, mark):
        """A hand puts a mark on a number; whether it is new there. Raises NoMark."""
        self._check_marks([mark])
        marks = self._hand_marks.get(number, ())
        self.changes = ()
        if mark in marks:
            return False
        self._hand_marks[number] = marks + (mark,)
        # On a number that has not come the mark waits.
        if number in self.threads:
            name = self.threads.name_of(number)
            view = self._views[name] | View([mark])
            touched = self._touched([name], view)
            self._views[name] = view
            self._renew([number] + touched)
        return True

    def edit(self, book):
        """The rules of another book hold from now on. Raises OtherGround, then RingThroughLacks."""
        self.book.check_ground(book)
        check_ring(book)
        self.book = book
        self._had = {}
        self._views = {name: self._view_anew(name) for name in self.threads.names()}
        self._renew(list(self.threads))

    def under(self, book):
        """A new Kept of the same letters and marks with another book. Raises as edit."""
        self.book.check_ground(book)
        other = Kept(book)
        for number in list(self.threads):
            other.come(self.threads.letter_at(number), self._stamp_marks[number])
        for number in self.hand_numbers():
            for mark in self.hand_marks_of(number):
                other.put(number, mark)
        return other

    def stamp_marks(self, number):
        """The marks of the stamp of a letter. Raises NoLetter."""
        self._check_come(number)
        return self._stamp_marks[number]

    def hand_marks_of(self, number):
        """The marks that hands put on a number, come or not."""
        return those_in(self.book.marks, self._hand_marks.get(number, ()))

    def hand_numbers(self):
        """The numbers on which hands put marks, come or not, an ascending list."""
        return sorted(self._hand_marks)

    def borne(self, number):
        """The marks that a letter bears. Raises NoLetter."""
        self._check_come(number)
        return self._borne[number]

    def thread_view(self, number):
        """The view of the thread of a known number; View() for other numbers."""
        return self._views.get(self.threads.name_of(number), View())

    def marks_had(self, number):
        """The marks that the thread of a number has."""
        return self._marks_of(self.thread_view(number))

    def derivation_of(self, number):
        """The derivation of the thread of a number."""
        return derivation(self.book, self.thread_view(number))

    def joined_view(self, letter):
        """The view of all that would be in the thread of a letter if it came, without the letter."""
        if letter.number in self.threads:
            return self.thread_view(letter.number)
        return self._union(self.threads.joined(letter))

    def marks_joined(self, letter):
        """The marks that a letter would see if it came."""
        return self._marks_of(self.joined_view(letter))

    def why(self, number, mark):
        """Why a letter bears a mark, or why not. Raises NoLetter, then NoMark."""
        self._check_come(number)
        self._check_marks([mark])
        if mark in self._stamp_marks[number]:
            return ("stamp",)
        if mark in self._hand_marks.get(number, ()):
            return ("hand",)
        had = self.marks_had(number)
        kind = self._kinds[number]
        failed = [(rule.number, letter_bar(rule, kind, had)) for rule in always_rules(self.book) if rule.gift == mark]
        for giver, bar in failed:
            if bar is None:
                return "rule", giver
        return "none", tuple([bar for _, bar in failed])

    def bearing(self, mark):
        """The letters that bear a mark, ascending. Raises NoMark."""
        self._check_marks([mark])
        return tuple(sorted([number for number in self._borne if mark in self._borne[number]]))

    def each_thread(self):
        """Tuples (name, marks had), one for each thread, by name."""
        for name in self.threads.names():
            yield name, self.marks_had(name)

    def _check_marks(self, marks):
        for mark in marks:
            if mark not in self.book.marks:
                raise NoMark(mark)

    def _check_come(self, number):
        if number not in self.threads:
            raise NoLetter(number)

    def _own_view(self, number):
        own_marks = self._stamp_marks[number] + self._hand_marks.get(number, ())
        return View(own_marks, fitting(self.book, self._kinds[number]))

    def _union(self, names):
        view = View()
        for name in names:
            view = view | self._views[name]
        return view

    def _view_anew(self, name):
        view = View()
        for number in self.threads.members(name):
            view = view | self._own_view(number)
        return view

    def _marks_of(self, view):
        key = view.key()
        if key not in self._had:
            self._had[key] = thread_marks(self.book, view)
        return self._had[key]

    def _touched(self, names, view):
        # What letters bear depends on the marks that their thread has, so threads that keep these are left alone.
        had = self._marks_of(view)
        changed = [name for name in names if self._marks_of(self._views[name]) != had]
        return [number for name in changed for number in self.threads.members(name)]

    def _renew(self, numbers):
        changed = []
        for number in sorted(set(numbers)):
            before = self._borne.get(number, ())
            own_marks = self._stamp_marks[number] + self._hand_marks.get(number, ())
            after = borne(self.book, self._kinds[number], own_marks, self.marks_had(number))
            self._borne[number] = after
            changed = changed + [
                (number, mark, mark in after) for mark in self.book.marks if (mark in before) != (mark in after)
            ]
        self.changes = tuple(changed)


def letter_bar(rule, kind, had):
    """The bar of the first wish of an always-rule that fails for a letter of this kind, or None."""
    for at, wish in enumerate(rule.own):
        if wish is not None and wish != kind[at]:
            return rule.number, "test", at + 1
    return wish_bar(rule, had)
