"""The fold of edits into the slots of a book, in the order of their places."""

from filedalike.deeds import MOST_SLOTS
from filedalike.errors import MailError
from filedalike.orders import judge
from filedalike.strata import check_ring


class NotFree(MailError):
    """A book is bound; the kind is that of its first departure."""

    def __init__(self, kind):
        super().__init__("the book is not free")
        self.kind = kind


def checked(book):
    """Raise RingThroughLacks if a book has a ring, or else NotFree if it is bound."""
    check_ring(book)
    verdict = judge(book)
    if not verdict.free:
        raise NotFree(verdict.kind)


class Fold:
    """A book and edits of its slots, each of which is taken or passed over."""

    def __init__(self, book):
        checked(book)
        self.book = book
        self.taken = ()
        self.passed = ()
        self._first_book = book
        # A slot is the row of its rule, or None.
        self._slots = slots_of(book)
        self._edits = {}
        # Judging is slow, and an edit that becomes known late brings back slots that were judged before.
        self._reasons = {self._slots: None}

    def put(self, place, slot, text):
        """Add an edit; whether its place is new. Raises BadBook."""
        row = self._row_of(text)
        if place in self._edits:
            return False
        self._edits[place] = (slot, row)
        self._fold_all()
        return True

    def put_all(self, edits):
        """Add edits (place, slot, text) with new places; the fold is worked out once. Raises BadBook."""
        rows = [(place, slot, self._row_of(text)) for place, slot, text in edits]
        for place, slot, row in rows:
            self._edits[place] = (slot, row)
        self._fold_all()

    def trial(self, slot, text):
        """The book of the slots behind one more edit at the end, taken or not. Raises BadBook."""
        return self._book_of(slots_with(self._slots, slot, self._row_of(text)))

    def _row_of(self, text):
        return None if text is None else self._first_book.read_rule(text).written()

    def _fold_all(self):
        slots = slots_of(self._first_book)
        taken = []
        passed = []
        for place in sorted(self._edits):
            slot, row = self._edits[place]
            after = slots_with(slots, slot, row)
            reason = self._reason_of(after)
            if reason is None:
                slots = after
                taken.append(place)
            else:
                passed.append((place, reason))
        self._slots = slots
        self.book = self._book_of(slots)
        self.taken = tuple(taken)
        self.passed = tuple(passed)

    def _reason_of(self, slots):
        if slots not in self._reasons:
            self._reasons[slots] = reason_against(self._book_of(slots))
        return self._reasons[slots]

    def _book_of(self, slots):
        rules = [self._first_book.read_rule(row) for row in slots if row is not None]
        return self._first_book.with_rules(rules)


def slots_of(book):
    """The slots that hold the rules of a book, a tuple."""
    rows = [rule.written() for rule in book.rules]
    return tuple(rows + [None] * (MOST_SLOTS - len(rows)))


def slots_with(slots, slot, row):
    """The slots in which one, counted from 1, holds another row."""
    return slots[:slot - 1] + (row,) + slots[slot:]


def reason_against(book):
    """Why an edit that gives a book is passed over: "ring" or "bound"; None if it is taken."""
    if book.ring is not None:
        return "ring"
    return None if judge(book).free else "bound"
