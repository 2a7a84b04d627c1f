"""What the rules of a book fit: unfit rules, alike kinds, coverings."""

from filedalike.kinds import kinds


def unfit_rules(book):
    """The numbers of the rules that fit no possible kind, a list."""
    possible = kinds(book.tests)
    return [rule.number for rule in book.rules if not any([rule.fits(kind) for kind in possible])]


def alike_kinds(book):
    """The possible kinds in lists; those in one list fit the same rules."""
    lots = {}
    for kind in kinds(book.tests):
        fitted = tuple([rule.fits(kind) for rule in book.rules])
        lots.setdefault(fitted, []).append(kind)
    return list(lots.values())


def coverings(book):
    """The pairs (A, B) of rule numbers such that rule A covers another rule B, a list."""
    places = places_of(book)
    pairs = [(first, second) for first in book.rules for second in book.rules]
    return [
        (first.number, second.number)
        for first, second in pairs
        if first.number != second.number and is_same_deed(first, second) and is_wider(first, second, places)
    ]


def is_same_deed(first, second):
    """Whether two rules have the same mode, deed and gift."""
    return first.mode == second.mode and first.deed == second.deed and first.gift == second.gift


def places_of(book):
    """All tuples of a possible kind, a collection of marks and one of standings."""
    return [
        (kind, marks, standings)
        for kind in kinds(book.tests)
        for marks in parts_of(book.marks)
        for standings in parts_of(book.standings)
    ]


def is_wider(first, second, places):
    """Whether the first rule fits and meets at all places at which the second one does."""
    return all([applies(first, place) or not applies(second, place) for place in places])


def applies(rule, place):
    """Whether a rule fits and meets at a place."""
    kind, marks, standings = place
    return rule.fits(kind) and rule.meets(marks, standings)


def parts_of(names):
    """All parts of a tuple of names, the empty one and the whole included."""
    found = [()]
    for name in names:
        found = found + [part + (name,) for part in found]
    return found
