"""The rules of a book."""

from filedalike.errors import MailError


class BadBook(MailError):
    """A row of a book is wrong."""

    def __init__(self, row):
        super().__init__("a row of a book is wrong")
        self.row = row


class NoRule(MailError):
    """A book has no rule with this number."""

    def __init__(self, number):
        super().__init__("the book has no rule with this number")
        self.number = number


class NotTurnable(MailError):
    """A number is not that of a turnable rule."""

    def __init__(self, number):
        super().__init__("this is not the number of a turnable rule")
        self.number = number


class Mode:
    """The modes of rules."""

    COMING = "coming"
    ALWAYS = "always"


class Rule:
    """A rule of a book; it never changes."""

    def __init__(self, number, mode, deed, gift, marks, standings, own, thread, sender):
        self.number = number
        self.mode = mode
        self.deed = deed
        self.gift = gift
        self.marks = tuple(marks)
        self.standings = tuple(standings)
        self.own = tuple(own)
        self.thread = tuple(thread)
        self.sender = tuple(sender)

    def fits(self, kind):
        """Whether the wishes about own tests hold for a kind."""
        return all([wish is None or wish == passed for wish, passed in zip(self.own, kind)])

    def meets(self, marks, standings):
        """Whether the other wishes hold for collections of marks and standings."""
        return agree(self.thread, self.marks, marks) and agree(self.sender, self.standings, standings)

    @property
    def turnable(self):
        """Whether the rule stamps a mark and has no wish about the sender."""
        if self.mode != Mode.COMING or self.deed != "mark":
            return False
        return all([wish is None for wish in self.sender])

    def written(self):
        """The row of the rule."""
        tests = [str(at + 1) for at in range(len(self.own))]
        wishes = (
            written_wishes("test", tests, self.own)
            + written_wishes("thread", self.marks, self.thread)
            + written_wishes("sender", self.standings, self.sender)
        )
        head = f"rule {self.mode} {self.deed} {self.gift}"
        return head + " if " + ", ".join(wishes) if wishes else head

    def remade(self, number, mode):
        """The same rule with this number and mode."""
        return Rule(
            number, mode, self.deed, self.gift, self.marks, self.standings, self.own, self.thread, self.sender
        )

    def __eq__(self, other):
        return isinstance(other, Rule) and self.written() == other.written()


def agree(wishes, names, had):
    """Whether each wish about these names holds for the names had."""
    return all([wish is None or wish == (name in had) for wish, name in zip(wishes, names)])


def written_wishes(lead, names, wishes):
    """The texts of the wishes about these names."""
    told = [(name, wish) for name, wish in zip(names, wishes) if wish is not None]
    return [f"{lead} {name}" if wish else f"not {lead} {name}" for name, wish in told]
