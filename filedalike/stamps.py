"""What the coming-rules of a book give to a letter."""

from filedalike.names import those_in
from filedalike.rules import Mode


class Stamp:
    """What the rules gave to a letter when it came; it never changes."""

    def __init__(self, marks, standings, rules=()):
        self.marks = tuple(marks)
        self.standings = tuple(standings)
        self.rules = tuple(rules)

    def written(self):
        """The gifts in one line."""
        gifts = [f"mark {name}" for name in self.marks] + [f"standing {name}" for name in self.standings]
        return ", ".join(gifts) if gifts else "nothing"

    def __eq__(self, other):
        return isinstance(other, Stamp) and self.marks == other.marks and self.standings == other.standings


def stamp(book, kind, marks, standings):
    """The stamp of a letter of this kind that sees these marks and standings."""
    fired = [rule for rule, bar in gone_through(book, kind, marks, standings) if bar is None]
    return Stamp(
        those_in(book.marks, gifts_of(fired, "mark")),
        those_in(book.standings, gifts_of(fired, "standing")),
        [rule.number for rule in fired],
    )


def empty_stamp(book, kind):
    """The stamp of a letter of this kind that sees nothing."""
    return stamp(book, kind, (), ())


def walk(book, kind, marks, standings):
    """A list of tuples (number, bar), one for each coming-rule."""
    return [(rule.number, bar) for rule, bar in gone_through(book, kind, marks, standings)]


def gone_through(book, kind, marks, standings):
    """A list of tuples (rule, bar), one for each coming-rule; what fires gives to the rules behind it."""
    rows = []
    fired = []
    for rule in book.rules:
        if rule.mode == Mode.COMING:
            seen_marks = list(marks) + gifts_of(fired, "mark")
            seen_standings = list(standings) + gifts_of(fired, "standing")
            bar = first_bar(rule, kind, seen_marks, seen_standings)
            rows.append((rule, bar))
            if bar is None:
                fired.append(rule)
    return rows


def first_bar(rule, kind, marks, standings):
    """The first wish of a rule that does not hold, as a pair, or None."""
    for at, wish in enumerate(rule.own):
        if wish is not None and wish != kind[at]:
            return "test", at + 1
    for mark, wish in zip(rule.marks, rule.thread):
        if wish is not None and wish != (mark in marks):
            return "thread", mark
    for standing, wish in zip(rule.standings, rule.sender):
        if wish is not None and wish != (standing in standings):
            return "sender", standing
    return None


def gifts_of(rules, deed):
    """The gifts of the rules with this deed, a list."""
    return [rule.gift for rule in rules if rule.deed == deed]
