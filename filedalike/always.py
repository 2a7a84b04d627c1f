"""Always-rules: views of threads, and the marks that threads have and letters bear."""

from filedalike.names import those_in
from filedalike.rules import Mode

# The key of the view of no letters.
NOTHING = ((), ())


class View:
    """What always-rules need to know of a thread; it never changes."""

    def __init__(self, marks=(), rules=()):
        self.marks = tuple(sorted(set(marks)))
        self.rules = tuple(sorted(set(rules)))

    def key(self):
        """The tuple (marks, rules)."""
        return self.marks, self.rules

    def __or__(self, other):
        return View(self.marks + other.marks, self.rules + other.rules)

    def __eq__(self, other):
        return isinstance(other, View) and self.marks == other.marks and self.rules == other.rules


def union_of(first, second):
    """The key of the union of two views that are told by their keys."""
    return tuple(sorted(set(first[0] + second[0]))), tuple(sorted(set(first[1] + second[1])))


def thread_marks(book, view):
    """The marks that a thread with this view has, in book order. Raises RingThroughLacks."""
    return those_in(book.marks, [mark for mark, _, _ in ranked_marks(book, view)])


def ranked_marks(book, view):
    """Tuples (mark, stratum, rank) of the marks had, by stratum, rank and book order. Raises RingThroughLacks."""
    layers = book.layers()
    rules = rules_in_view(book, view)
    ranked = []
    for stratum, layer in enumerate(layers):
        rank = 0
        given = list(those_in(layer, view.marks))
        # Putting nothing does not end a stratum, giving nothing does.
        while given or rank == 0:
            ranked = ranked + [(mark, stratum, rank) for mark in given]
            rank += 1
            had = [mark for mark, _, _ in ranked]
            given = [mark for mark in layer if mark not in had and is_given(mark, rules, had)]
    return ranked


def is_given(mark, rules, had):
    """Whether some of these rules gives the mark and meets the marks had."""
    return any([rule.gift == mark and rule.meets(had, ()) for rule in rules])


def always_rules(book):
    """The always-rules of a book, a list."""
    return [rule for rule in book.rules if rule.mode == Mode.ALWAYS]


def rules_in_view(book, view):
    """The always-rules of a book whose numbers a view has, a list."""
    return [rule for rule in always_rules(book) if rule.number in view.rules]


def fitting(book, kind):
    """The numbers of the always-rules that fit a kind."""
    return tuple([rule.number for rule in always_rules(book) if rule.fits(kind)])


def borne(book, kind, own_marks, marks_had):
    """The marks that a letter bears in a thread with marks had, in book order."""
    given = [rule.gift for rule in always_rules(book) if rule.fits(kind) and rule.meets(marks_had, ())]
    return tuple([mark for mark in book.marks if mark in own_marks or mark in given])


def view_of(book, parts):
    """The view of a thread of the letters that tuples (kind, own marks) describe."""
    marks = [mark for _, own_marks in parts for mark in own_marks]
    rules = [number for kind, _ in parts for number in fitting(book, kind)]
    return View(marks, rules)
