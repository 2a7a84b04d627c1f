"""Devices that keep copies of one house and work apart."""

from filedalike.claims import Claims
from filedalike.deeds import Deed, forged, in_place_order
from filedalike.errors import MailError
from filedalike.folding import Fold, checked
from filedalike.had import Had
from filedalike.house import House, NotByHand
from filedalike.letters import has_come
from filedalike.rules import BadBook


class Forged(MailError):
    """There are unequal deeds of one device and number."""

    def __init__(self, device, number):
        super().__init__("a deed is forged")
        self.device = device
        self.number = number


class WrongDeed(MailError):
    """A deed of a parcel is not right for the book."""

    def __init__(self, index):
        super().__init__("a deed is not right for the book")
        self.index = index


def meaning(book, deeds):
    """What deeds in any order mean: a tuple (written book, passed, shadowed, summary). Raises as checked."""
    fold = Fold(book)
    # A deed that stands twice counts once.
    by_place = {deed.place: deed for deed in deeds}
    ordered = [by_place[place] for place in sorted(by_place)]
    fold.put_all(edits_of(ordered))
    claims = Claims()
    for deed in letter_deeds(ordered):
        claims.claim(deed)
    house = played_house(fold.book, claims.valid, ordered)
    return fold.book.written(), fold.passed, claims.shadowed_places(), house.summary()


def edits_of(deeds):
    """The edits (place, slot, text) among deeds, a list."""
    return [(deed.place, deed.action[1], deed.action[2]) for deed in deeds if deed.action[0] == "rule"]


def letter_deeds(deeds):
    """The deeds of letters among deeds, a list."""
    return [deed for deed in deeds if deed.action[0] == "letter"]


def played_house(book, valid, deeds):
    """A house in which the valid letters came and all that hands did was done."""
    house = House(book)
    for number in sorted(valid):
        house.come(valid[number])
    for deed in deeds:
        word = deed.action[0]
        if word == "mark":
            house.put(deed.action[1], deed.action[2])
        elif word == "standing":
            house.give(deed.action[1], deed.action[2])
        elif word == "seen":
            house.see(deed.action[1], deed.action[2], count=deed.clock, device=deed.device)
    return house


def is_right_action(book, action):
    """Whether hands may do an action, or its text is that of a rule over the ground of a book."""
    if action[0] == "mark":
        return action[2] in book.hand_marks
    if action[0] == "standing":
        return action[2] in book.hand_standings
    if action[0] == "rule" and action[2] is not None:
        try:
            book.read_rule(action[2])
        except BadBook:
            return False
    return True


def pair_of(deed):
    """The pair (device, number) of a deed."""
    return deed.device, deed.number


class Device:
    """A device: a set of deeds without forged ones, and what they mean."""

    def __init__(self, name, book):
        self.name = name
        self.first_book = book
        self._fold = Fold(book)
        self.book = book
        self.passed = ()
        self.shadowed = ()
        self._held = {}
        self._claims = Claims()
        self._by_hand = {}
        self._greatest_clock = 0
        self._greatest_number = 0

    def come(self, letter):
        """Make the deed of a letter, or None if an equal one is valid. Raises Clash."""
        if has_come(self._claims.valid, letter):
            return None
        return self._make(("letter", letter))

    def put(self, number, mark):
        """Make the deed of a hand's mark, or None if it is held. Raises NotByHand."""
        if mark not in self.first_book.hand_marks:
            raise NotByHand(mark)
        return self._make_once(("mark", number, mark))

    def give(self, sender, standing):
        """Make the deed of a hand's standing, or None if it is held. Raises NotByHand."""
        if standing not in self.first_book.hand_standings:
            raise NotByHand(standing)
        return self._make_once(("standing", sender, standing))

    def see(self, number, seen):
        """Make the deed of a word about a number."""
        return self._make(("seen", number, seen))

    def edit(self, slot, text):
        """Make the deed of an edit. Raises BadBook, then as checked."""
        checked(self._fold.trial(slot, text))
        return self._make(("rule", slot, text))

    def receive(self, deeds):
        """Take a parcel; the number of new deeds. Raises WrongDeed, then Forged."""
        for at, deed in enumerate(deeds):
            if not is_right_action(self.first_book, deed.action):
                raise WrongDeed(at)
        pair = forged(self.deeds() + list(deeds))
        if pair is not None:
            raise Forged(pair[0], pair[1])
        new = {pair_of(deed): deed for deed in deeds if pair_of(deed) not in self._held}
        self._add([new[each] for each in new])
        return len(new)

    def deeds(self):
        """All deeds, by place."""
        return in_place_order(list(self._held.values()))

    def held(self):
        """The Had of the pairs (device, number) of all deeds."""
        return Had(list(self._held))

    def parcel(self, had, *, most=None):
        """The deeds that are not in a Had, by place, or only the first of them."""
        lacked = [deed for deed in self.deeds() if pair_of(deed) not in had]
        return lacked if most is None else lacked[:most]

    def summary(self):
        """What the deeds mean: a tuple (written book, passed, shadowed, summary)."""
        return self.book.written(), self.passed, self.shadowed, self.new_house().summary()

    def new_house(self):
        """A new house that tells what the deeds mean."""
        return played_house(self.book, self._claims.valid, self.deeds())

    def _make(self, action):
        deed = Deed(self._greatest_clock + 1, self.name, self._greatest_number + 1, action)
        self._add([deed])
        return deed

    def _make_once(self, action):
        return None if action in self._by_hand else self._make(action)

    def _add(self, deeds):
        for deed in deeds:
            self._held[pair_of(deed)] = deed
            self._greatest_clock = max(self._greatest_clock, deed.clock)
            if deed.device == self.name:
                self._greatest_number = max(self._greatest_number, deed.number)
            if deed.action[0] in ("mark", "standing"):
                self._by_hand[deed.action] = True
        letters = letter_deeds(deeds)
        if letters:
            for deed in letters:
                self._claims.claim(deed)
            self.shadowed = self._claims.shadowed_places()
        edits = edits_of(deeds)
        if edits:
            self._fold.put_all(edits)
            self.book = self._fold.book
            self.passed = self._fold.passed
