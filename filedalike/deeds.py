"""What is done on a device."""

from filedalike.errors import MailError
from filedalike.letters import Letter
from filedalike.names import is_name, is_number
from filedalike.senders import is_sender

MOST_SLOTS = 5


class BadDeed(MailError):
    """A field of a deed is wrong."""

    def __init__(self, field):
        super().__init__("a field of a deed is wrong")
        self.field = field


class Deed:
    """A deed of a device; it never changes."""

    def __init__(self, clock, device, number, action):
        if not is_number(clock):
            raise BadDeed("clock")
        if not is_name(device):
            raise BadDeed("device")
        if not is_number(number):
            raise BadDeed("number")
        if not is_action(action):
            raise BadDeed("action")
        self.clock = clock
        self.device = device
        self.number = number
        self.action = action
        self.place = (clock, device, number)

    def __eq__(self, other):
        return isinstance(other, Deed) and self.place == other.place and self.action == other.action


def is_action(thing):
    """Whether a thing, of any kind, is an action."""
    if not isinstance(thing, tuple) or not thing or not isinstance(thing[0], str):
        return False
    word = thing[0]
    parts = thing[1:]
    if word == "letter" and len(parts) == 1:
        return isinstance(parts[0], Letter)
    if word == "mark" and len(parts) == 2:
        return is_number(parts[0]) and is_name(parts[1])
    if word == "standing" and len(parts) == 2:
        return is_sender(parts[0]) and is_name(parts[1])
    if word == "seen" and len(parts) == 2:
        return is_number(parts[0]) and isinstance(parts[1], bool)
    if word == "rule" and len(parts) == 2:
        return is_slot(parts[0]) and (parts[1] is None or isinstance(parts[1], str))
    return False


def is_slot(value):
    """Whether a value, of any kind, is an integer from 1 to 5."""
    return is_number(value) and value <= MOST_SLOTS


def in_place_order(deeds):
    """The deeds by place, a list."""
    return sorted(deeds, key=place_of)


def place_of(deed):
    """What deeds are ordered by."""
    return deed.place


def forged(deeds):
    """The least pair (device, number) of which a list has unequal deeds, or None."""
    first_deeds = {}
    pairs = []
    for deed in deeds:
        pair = (deed.device, deed.number)
        if pair not in first_deeds:
            first_deeds[pair] = deed
        elif deed != first_deeds[pair]:
            pairs.append(pair)
    return min(pairs, default=None)
