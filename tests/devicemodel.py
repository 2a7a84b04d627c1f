"""A slow model of folds and of the plain meaning of deeds, and deeds made at random."""

from filedalike.book import Book
from filedalike.deeds import Deed
from tests.housemodel import HOUSES, PERSONS, SlowHouse, random_mail
from tests.models import random_ground, random_rule, rule_row
from tests.reachmodel import SlowReach

VERDICTS = {}


def reason_against(book):
    """"ring", "bound", or None for a free book."""
    text = book.written()
    if text not in VERDICTS:
        VERDICTS[text] = "ring" if book.ring else "bound" if SlowReach(book).departures() else None
    return VERDICTS[text]


def book_of_slots(book, slots):
    rows = book.written().split("\n")[:len(book.written().split("\n")) - len(book.rules)] if book.written() else []
    return Book.read("\n".join(rows + [slots[slot] for slot in sorted(slots)]))


def folded(book, edits):
    """The book behind edits (place, slot, text), the places taken, and the pairs (place, reason) passed over."""
    slots = {rule.number: rule.written() for rule in book.rules}
    taken, passed = [], []
    for place, slot, text in sorted(edits):
        after = {other: slots[other] for other in slots if other != slot}
        if text is not None:
            after[slot] = text
        reason = reason_against(book_of_slots(book, after))
        if reason is None:
            taken.append(place)
            slots = after
        else:
            passed.append((place, reason))
    return book_of_slots(book, slots), tuple(taken), tuple(passed)


def plain_meaning(book, deeds):
    """The meaning of deeds, some of which may stand twice."""
    deeds = sorted({deed.place: deed for deed in deeds}.values(), key=lambda deed: deed.place)
    edits = [(deed.place,) + deed.action[1:] for deed in deeds if deed.action[0] == "rule"]
    last, _, passed = folded(book, edits)
    house, valid, shadowed = SlowHouse(last), {}, []
    for deed in deeds:
        word, number = deed.action[:2]
        if word == "letter":
            letter = number
            if valid.setdefault(letter.number, letter) == letter:
                house.come(letter)
            else:
                shadowed.append(deed.place)
        elif word == "seen":
            house.do(("seen", number, deed.action[2], deed.clock, deed.device))
        elif word != "rule":
            house.do(deed.action)
    return last.written(), passed, tuple(shadowed), house.summary()


def random_free_book(rng):
    """A free book, its marks, standings and tests."""
    while True:
        rows, marks, standings, tests = random_ground(rng)
        told = [random_rule(rng, marks, standings, tests) for _ in range(rng.randint(0, 4))]
        book = Book.read("\n".join(rows + [rule_row(row[0], row[1]) for row in told if row]))
        if reason_against(book) is None and marks:
            return book, marks, standings, tests


def random_text(rng, ground):
    """The text of an edit."""
    told = random_rule(rng, *ground)
    return rule_row(told[0], told[1]) if told and rng.random() < 0.8 else None


def random_action(rng, book, ground, edits=True):
    """An action that is right for the book."""
    while True:
        word = rng.choice(["letter", "letter", "mark", "standing", "seen", "rule"])
        if word == "letter":
            return word, random_mail(rng, rng.randint(1, 6), 6)
        if word == "mark" and book.hand_marks:
            return word, rng.randint(1, 6), rng.choice(book.hand_marks)
        if word == "standing" and book.hand_standings:
            return word, f"{rng.choice(PERSONS)} at {rng.choice(HOUSES)}", rng.choice(book.hand_standings)
        if word == "seen":
            return word, rng.randint(1, 6), rng.choice([True, False])
        if word == "rule" and edits:
            return word, rng.randint(1, 5), random_text(rng, ground)


def random_deeds(rng, book, ground, many, devices=("a", "b", "c")):
    """Deeds of some devices without forged ones, with clocks of any size."""
    numbers = {name: 0 for name in devices}
    deeds = []
    for _ in range(many):
        name = rng.choice(devices)
        numbers[name] += rng.randint(1, 2)
        deeds.append(Deed(rng.randint(1, 9), name, numbers[name], random_action(rng, book, ground)))
    return deeds
