"""Meetings of devices, and the routes by which deeds spread."""

from filedalike.deeds import forged
from filedalike.devices import Forged
from filedalike.errors import MailError


class Strangers(MailError):
    """Two devices cannot meet; the pair has their names."""

    def __init__(self, pair):
        super().__init__("these devices cannot meet")
        self.pair = pair


def meet(one, other, *, most=None):
    """A meeting of two devices: how many deeds each of them got, a tuple. Raises Strangers, then Forged."""
    if one.name == other.name or one.first_book != other.first_book:
        raise Strangers((one.name, other.name))
    pair = forged(one.deeds() + other.deeds())
    if pair is not None:
        raise Forged(pair[0], pair[1])
    for_one = other.parcel(one.held(), most=most)
    for_other = one.parcel(other.held(), most=most)
    return one.receive(for_one), other.receive(for_other)


def routes(names, meetings):
    """The routes by which names come to know of names: a dict with the keys (from, to)."""
    found = {(name, name): () for name in names}
    for at, (one, other) in enumerate(meetings):
        # Each learns what the other knew just before, so both are worked out ahead of either.
        learned = learning(found, names, one, other, at) + learning(found, names, other, one, at)
        for pair, route in learned:
            found[pair] = route
    return found


def learning(found, names, giver, taker, at):
    """What a name comes to know of by another one at a meeting: a list of tuples (pair, route)."""
    return [
        ((name, taker), found[name, giver] + (at,))
        for name in names
        if (name, giver) in found and (name, taker) not in found
    ]
