"""Why threads have marks, and why they lack them."""

from filedalike.always import always_rules, ranked_marks, rules_in_view, thread_marks
from filedalike.errors import MailError
from filedalike.strata import check_ring


class NoMark(MailError):
    """A book has no mark of this name."""

    def __init__(self, name):
        super().__init__("the book has no such mark")
        self.name = name


class HasMark(MailError):
    """A thread has the mark, so nothing bars it."""

    def __init__(self, name):
        super().__init__("the thread has this mark")
        self.name = name


class Reason:
    """Why a thread has a mark."""

    def __init__(self, mark, stratum, rank, rule=None, *, has=(), lacks=()):
        self.mark = mark
        self.stratum = stratum
        self.rank = rank
        self.rule = rule
        self.has = tuple(has)
        self.lacks = tuple(lacks)

    def written(self):
        """The reason in one line."""
        cause = "put" if self.rule is None else f"rule {self.rule}"
        wishes = [f" has {mark}" for mark in self.has] + [f" lacks {mark}" for mark in self.lacks]
        return f"{self.mark:<8} {self.stratum:>2} {self.rank:>2} {cause}" + "".join(wishes)

    def __eq__(self, other):
        return (
            isinstance(other, Reason)
            and self.mark == other.mark
            and self.stratum == other.stratum
            and self.rank == other.rank
            and self.rule == other.rule
            and self.has == other.has
            and self.lacks == other.lacks
        )


def derivation(book, view):
    """The reasons of all marks that a thread with this view has, a list. Raises RingThroughLacks."""
    ranked = ranked_marks(book, view)
    rules = rules_in_view(book, view)
    reasons = []
    for mark, stratum, rank in ranked:
        earlier = [row[0] for row in ranked if (row[1], row[2]) < (stratum, rank)]
        reasons.append(reason_of(mark, stratum, rank, rules, earlier))
    return reasons


def reason_of(mark, stratum, rank, rules, earlier):
    """The reason of a mark, given the fitting rules and the marks had before the round of its rank."""
    if rank == 0:
        return Reason(mark, stratum, rank)
    givers = [rule for rule in rules if rule.gift == mark and rule.meets(earlier, ())]
    giver = givers[0]
    return Reason(mark, stratum, rank, giver.number, has=wanted(giver), lacks=unwanted(giver))


def wanted(rule):
    """The marks that the thread wishes of a rule want, in book order."""
    return tuple([mark for mark, wish in zip(rule.marks, rule.thread) if wish is True])


def unwanted(rule):
    """The marks that the thread wishes of a rule do not want, in book order."""
    return tuple([mark for mark, wish in zip(rule.marks, rule.thread) if wish is False])


def first_fault(book, view, reasons):
    """The first fault of a list of reasons, a tuple (index, word), or None. Raises RingThroughLacks."""
    check_ring(book)
    for at in range(len(reasons)):
        word = fault_at(book, view, reasons, at)
        if word is not None:
            return at, word
    return (len(reasons), "missing") if is_missing(book, view, reasons) else None


def fault_at(book, view, reasons, at):
    """The word for the first fault of the reason at an index, or None."""
    reason = reasons[at]
    if reason.mark not in book.marks or reason.mark in [each.mark for each in reasons[:at]]:
        return "mark"
    if reason.stratum != book.strata[book.marks.index(reason.mark)]:
        return "stratum"
    rules = [rule for rule in rules_in_view(book, view) if rule.number == reason.rule and rule.gift == reason.mark]
    if reason.rule is None and reason.rank != 0 or reason.rule is not None and reason.rank < 1:
        return "rank"
    if reason.rule is None and reason.mark not in view.marks:
        return "put"
    if reason.rule is not None and not rules:
        return "rule"
    return wish_fault(reason, rules, reasons, reasons[:at])


def wish_fault(reason, rules, reasons, earlier):
    """The word "has" or "lacks" if these marks of a reason are wrong for its rule (none if it is put), or None."""
    has = [mark for rule in rules for mark in wanted(rule)]
    lacks = [mark for rule in rules for mark in unwanted(rule)]
    place = (reason.stratum, reason.rank)
    founded = [each.mark for each in earlier if (each.stratum, each.rank) < place]
    told = [each.mark for each in reasons]
    if reason.has != tuple(has) or not all([mark in founded for mark in has]):
        return "has"
    if reason.lacks != tuple(lacks) or any([mark in told for mark in lacks]):
        return "lacks"
    return None


def is_missing(book, view, reasons):
    """Whether a mark that the thread has by the marks of a list of reasons is the mark of none of them."""
    told = [each.mark for each in reasons]
    put = [mark for mark in view.marks if mark in book.marks]
    given = [rule.gift for rule in rules_in_view(book, view) if rule.meets(told, ())]
    return any([mark not in told for mark in put + given])


def bars(book, view, mark):
    """The bars of a mark that the thread lacks, a list. Raises RingThroughLacks, then NoMark or HasMark."""
    had = thread_marks(book, view)
    if mark not in book.marks:
        raise NoMark(mark)
    if mark in had:
        raise HasMark(mark)
    return [
        wish_bar(rule, had) if rule.number in view.rules else (rule.number, "own", None)
        for rule in always_rules(book)
        if rule.gift == mark
    ]


def wish_bar(rule, had):
    """The bar of the first thread wish of a rule that fails in a thread with these marks, or None."""
    for mark, wish in zip(rule.marks, rule.thread):
        if wish is True and mark not in had:
            return rule.number, "lacking", mark
        if wish is False and mark in had:
            return rule.number, "had", mark
    return None
