"""The strata of the marks of a book, or the ring that forbids them."""

from filedalike.errors import MailError
from filedalike.rules import Mode


class RingThroughLacks(MailError):
    """A book has a ring, so its marks have no strata."""

    def __init__(self, ring):
        super().__init__("a mark of the book depends on lacking itself")
        self.ring = ring


def check_ring(book):
    """Raise RingThroughLacks if the book has a ring."""
    if book.ring is not None:
        raise RingThroughLacks(book.ring)


def dependences(rules):
    """What depends on what: tuples (rule number, mark given, mark wished, wish), by rule, then book order."""
    found = []
    for rule in rules:
        if rule.mode == Mode.ALWAYS:
            for mark, wish in zip(rule.marks, rule.thread):
                if wish is not None:
                    found.append((rule.number, rule.gift, mark, wish))
    return found


def ring_of(marks, rules):
    """The least ring of these rules, or None."""
    found = dependences(rules)
    steps = [(number, gift, mark) for number, gift, mark, _ in found]
    walks = [((number, gift, mark),) for number, gift, mark, wish in found if not wish]
    # The walks of one length stand in ascending order, and a shortest ring has no mark twice.
    for _ in marks:
        for walk in walks:
            if walk[-1][2] == walk[0][1]:
                return walk
        walks = [walk + (step,) for walk in walks for step in steps if step[1] == walk[-1][2]]
    return None


def strata_of(marks, rules):
    """The least strata of the marks, a tuple; the rules have no ring."""
    strata = {mark: 0 for mark in marks}
    found = dependences(rules)
    # Without a ring, no least stratum rests on more steps than there are marks.
    for _ in marks:
        for _, gift, mark, wish in found:
            strata[gift] = max(strata[gift], strata[mark] + (0 if wish else 1))
    return tuple([strata[mark] for mark in marks])
