"""Whether two books give the same for all rows of events, and which rules of a book are needed."""

from filedalike.building import Fresh
from filedalike.doubts import Doubt, events_of
from filedalike.jointrows import JointBuilding
from filedalike.jointviews import JointViews
from filedalike.leastsets import least_of, subsets
from filedalike.strata import check_ring


class Alike:
    """Two books are alike."""

    def __init__(self, views):
        self.views = views

    @property
    def alike(self):
        """True."""
        return True


class Unlike:
    """Two books are not alike: a row of events, and a letter or a sender of which the two houses tell unlike things."""

    def __init__(self, doubt, rows):
        self.events = events_of(rows, 0)
        self.number = doubt.number
        self.sender = doubt.sender
        self.first, self.second = doubt.told_by_houses(rows)

    @property
    def alike(self):
        """False."""
        return False


def compare(first, second, *, standings=False):
    """Whether two books are alike: Alike or Unlike. Raises OtherGround, then RingThroughLacks."""
    views = JointViews(first, second)
    building = JointBuilding(views.reach, Fresh(1))
    letter = views.reach.unlike_letter()
    if letter is not None:
        number, _ = building.build_followed(letter)
        return unlike(Doubt(first, second, number=number), building)
    sender = views.reach.unlike_sender() if standings else None
    if sender is not None:
        person, house = building.build_sender(*sender)
        return unlike(Doubt(first, second, sender=f"{person} at {house}"), building)
    return Alike(views)


def unlike(doubt, building):
    """The Unlike of built events."""
    return Unlike(doubt, doubt.needed([(0, event) for event in building.events]))


def are_alike(first, second):
    """Whether two books are alike. Raises OtherGround, then RingThroughLacks."""
    return JointViews(first, second).reach.unlike_letter() is None


def alike_books(*books):
    """The indexes of books in groups of books that are alike, a list of lists. Raises as compare."""
    leaders = []
    led_by = []
    # The first book leads, so each later one is compared with it first.
    for at, book in enumerate(books):
        found = [leader for leader in leaders if are_alike(books[leader], book)]
        if not found:
            leaders.append(at)
        led_by.append(found[0] if found else at)
    return [[place for place, other in enumerate(led_by) if other == leader] for leader in leaders]


def idle_rules(book):
    """The numbers of the rules without any of which the book is alike to itself. Raises RingThroughLacks."""
    check_ring(book)
    return [rule.number for rule in book.rules if are_alike(book.without(rule.number), book)]


def trims(book):
    """The least sets of rules that make a book that is alike to the whole one. Raises RingThroughLacks."""
    check_ring(book)
    numbers = tuple([rule.number for rule in book.rules])
    return least_of([chosen for chosen in subsets(numbers) if are_alike(only(book, chosen), book)])


def only(book, numbers):
    """The book of these rules alone."""
    return book.with_rules([book[number] for number in numbers])
