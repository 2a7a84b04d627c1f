"""Senders and their standings."""

from filedalike.names import is_name, those_in


def is_sender(thing):
    """Whether a thing, of any kind, is a sender."""
    if not isinstance(thing, str):
        return False
    parts = thing.split(" ")
    return len(parts) == 3 and is_name(parts[0]) and parts[1] == "at" and is_name(parts[2])


class Senders:
    """The standings that senders have, by hand and by stamps."""

    def __init__(self, standings):
        self._standings = tuple(standings)
        self._by_hand = {}
        self._by_stamps = {}

    def give(self, sender, standing, *, by_hand=False):
        """Give a standing in one of the two ways; whether it was not given in this way before."""
        given = self._by_hand if by_hand else self._by_stamps
        before = given.get(sender, ())
        if standing in before:
            return False
        given[sender] = before + (standing,)
        return True

    def standings_of(self, sender):
        """All standings of a sender, in book order."""
        return those_in(self._standings, self._by_hand.get(sender, ()) + self._by_stamps.get(sender, ()))

    def by_hand(self, sender):
        """The standings that hands gave to a sender, in book order."""
        return those_in(self._standings, self._by_hand.get(sender, ()))

    def names(self):
        """All senders that have a standing, ascending."""
        return sorted(set(list(self._by_hand) + list(self._by_stamps)))

    def __contains__(self, sender):
        return sender in self._by_hand or sender in self._by_stamps

    def __len__(self):
        return len(self.names())
