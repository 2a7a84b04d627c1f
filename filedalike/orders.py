"""The verdict on a book: whether the order of events can ever matter."""

from filedalike.always import thread_marks
from filedalike.building import Building, Fresh
from filedalike.closure import Closure
from filedalike.kinds import kinds, sender_part
from filedalike.stamps import empty_stamp, stamp


class Verdict:
    """What Free and Bound share; judge makes them."""

    IS_FREE = False

    def __init__(self, book):
        self.book = book

    @property
    def free(self):
        """Whether the order of events never matters."""
        return self.IS_FREE


class Free(Verdict):
    """The verdict on a free book."""

    IS_FREE = True

    def table(self):
        """The pairs of each possible kind and its stamp in the empty house, a list."""
        return [(kind, empty_stamp(self.book, kind)) for kind in kinds(self.book.tests)]


class Bound(Verdict):
    """The verdict on a bound book, with its first departure and the two orders that show it."""

    def __init__(self, closure, departure):
        super().__init__(closure.book)
        self.cost, self.kind, self.view, self.standings = departure
        self.here = stamp(self.book, self.kind, thread_marks(self.book, self.view), self.standings)
        self.alone = empty_stamp(self.book, self.kind)
        building = Building(closure, Fresh(1))
        person, house = building.build_sender(sender_part(self.book.tests, self.kind), self.standings)
        self.number = building.build_letter(self.kind, self.view, person, house)
        self._events = tuple(building.events)

    def first_order(self):
        """The events in the order in which the letter comes last, a list."""
        return list(self._events)

    def second_order(self):
        """The events in the order in which the letter comes first, a list."""
        return list(self._events[-1:] + self._events[:-1])


def judge(book):
    """The verdict on a book: a Free or a Bound. Raises RingThroughLacks."""
    closure = Closure(book)
    found = sorted_departures(closure)
    return Bound(closure, found[0]) if found else Free(book)


def departures(closure):
    """The departures of the book of a closure, in order, as tuples (cost, kind, view, standings)."""
    for departure in sorted_departures(closure):
        yield departure


def sorted_departures(closure):
    """The departures in order, a list."""
    book = closure.book
    joined = [(closure.joined_cost(view), view, thread_marks(book, view)) for view in closure.joined_views()]
    found = []
    for kind in kinds(book.tests):
        alone = empty_stamp(book, kind)
        for sender_cost, standings in sender_rows(closure, kind):
            found = found + [
                (cost + sender_cost, kind, view, standings)
                for cost, view, had in joined
                if stamp(book, kind, had, standings) != alone
            ]
    return sorted(found, key=departure_place)


def sender_rows(closure, kind):
    """The standings that senders of a kind can have, with their costs: a list of tuples (cost, standings)."""
    sender_kind = sender_part(closure.book.tests, kind)
    return [
        (closure.sender_cost(sender_kind, standings), standings)
        for standings in closure.sender_views(sender_kind)
    ]


def departure_place(departure):
    """What departures are ordered by."""
    cost, kind, view, standings = departure
    return cost, kind, view.key(), standings


def thread_events(closure, view, *, number=1):
    """The building events of a thread view and the number of its last built letter. Raises NoView."""
    building = Building(closure, Fresh(number))
    last = building.build_thread(view)
    return building.events, last


def sender_events(closure, sender_kind, standings, *, number=1):
    """The building events of standings and the sender. Raises NoView."""
    building = Building(closure, Fresh(number))
    person, house = building.build_sender(sender_kind, standings)
    return building.events, f"{person} at {house}"
