"""Books of rules."""

from filedalike.bookrows import BookRows
from filedalike.errors import MailError
from filedalike.rulerows import read_rule_row
from filedalike.rules import BadBook, Mode, NoRule, NotTurnable
from filedalike.strata import check_ring, ring_of, strata_of


class OtherGround(MailError):
    """Two books are not over the same ground; the part is the first in which they are unlike."""

    def __init__(self, part):
        super().__init__("the books are not over the same ground")
        self.part = part


class Book:
    """A book; it never changes. Callers make it by Book.read and by the methods of books."""

    def __init__(self, marks, hand_marks, standings, hand_standings, tests, rules):
        self.marks = tuple(marks)
        self.hand_marks = tuple(hand_marks)
        self.standings = tuple(standings)
        self.hand_standings = tuple(hand_standings)
        self.tests = tuple(tests)
        self.rules = tuple(rules)
        self.ring = ring_of(self.marks, self.rules)
        self.strata = strata_of(self.marks, self.rules) if self.ring is None else None

    @classmethod
    def read(cls, text):
        """The book of a text. Raises BadBook for its first wrong row."""
        taken = BookRows()
        # The empty text has no rows, but splitting it gives one.
        rows = text.split("\n") if text else []
        for at, row in enumerate(rows):
            if not taken.take(row):
                raise BadBook(at + 1)
        return cls(
            taken.marks, taken.hand_marks, taken.standings, taken.hand_standings, taken.tests, taken.rules
        )

    def written(self):
        """The text of the book."""
        rows = (
            [name_row("mark", name, self.hand_marks) for name in self.marks]
            + [name_row("standing", name, self.hand_standings) for name in self.standings]
            + [f"test {test.written()}" for test in self.tests]
            + [rule.written() for rule in self.rules]
        )
        return "\n".join(rows)

    def layers(self):
        """The marks of each stratum, a list of lists. Raises RingThroughLacks."""
        check_ring(self)
        return [
            [mark for mark, stratum in zip(self.marks, self.strata) if stratum == at]
            for at in range(max(self.strata, default=-1) + 1)
        ]

    def differs(self, other):
        """The first part of the ground in which another book is unlike, or None."""
        if self.marks != other.marks:
            return "marks"
        if self.hand_marks != other.hand_marks:
            return "hand_marks"
        if self.standings != other.standings:
            return "standings"
        if self.hand_standings != other.hand_standings:
            return "hand_standings"
        return "tests" if self.tests != other.tests else None

    def check_ground(self, other):
        """Raise OtherGround if another book is not over the same ground."""
        part = self.differs(other)
        if part is not None:
            raise OtherGround(part)

    def same_ground(self, other):
        """Whether another book is over the same ground."""
        return self.differs(other) is None

    def read_rule(self, text):
        """The rule, with number 1, of a rule row over this ground. Raises BadBook."""
        rule = read_rule_row(text, 1, self.marks, self.standings, len(self.tests))
        if rule is None:
            raise BadBook(1)
        return rule

    def with_rules(self, rules):
        """The book over the same ground with these rules, numbered anew."""
        numbered = [rule.remade(at + 1, rule.mode) for at, rule in enumerate(rules)]
        return Book(
            self.marks, self.hand_marks, self.standings, self.hand_standings, self.tests, numbered
        )

    def turned(self, *numbers):
        """The book in which these rules are turned. Raises NotTurnable."""
        turnable = [rule.number for rule in self.rules if rule.turnable]
        for number in numbers:
            if number not in turnable:
                raise NotTurnable(number)
        return self.with_rules(
            [rule.remade(rule.number, Mode.ALWAYS) if rule.number in numbers else rule for rule in self.rules]
        )

    def without(self, *numbers):
        """The book without these rules, the others numbered anew. Raises NoRule."""
        present = [rule.number for rule in self.rules]
        for number in numbers:
            if number not in present:
                raise NoRule(number)
        return self.with_rules([rule for rule in self.rules if rule.number not in numbers])

    def __str__(self):
        return str(self.written())

    def __eq__(self, other):
        return isinstance(other, Book) and self.written() == other.written()

    def __len__(self):
        return len(self.rules)

    def __iter__(self):
        return iter(self.rules)

    def __getitem__(self, number):
        if not 1 <= number <= len(self.rules):
            raise NoRule(number)
        return self.rules[number - 1]


def check_pair(first, second):
    """Raise OtherGround if two books are not over the same ground, or else RingThroughLacks for the first ring."""
    first.check_ground(second)
    check_ring(first)
    check_ring(second)


def name_row(lead, name, hand_names):
    """The mark row or standing row of a name."""
    return f"{lead} {name} by hand" if name in hand_names else f"{lead} {name}"
