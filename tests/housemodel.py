"""A slow and plain house that shares no code with the package but letters and books, and random events for it."""

from filedalike.kinds import kind_of
from filedalike.letters import Letter
from tests.models import marks_had, parents_of, threads_of

WORDS = ["x", "y", "w"]
HOUSES = ["oak", "elm", "ash"]
PERSONS = ["ann", "bob"]
DEVICES = ["d", "e"]


def in_order(names, held):
    return tuple(name for name in names if name in held)


def hold(wishes, names, held):
    """Whether the wishes about these names hold for what is held."""
    return all(wish is None or wish == (name in held) for wish, name in zip(wishes, names))


def fits(rule, kind):
    return all(wish is None or wish == passed for wish, passed in zip(rule.own, kind))


def always_numbers(book, kind):
    return tuple(rule.number for rule in book.rules if rule.mode == "always" and fits(rule, kind))


def stamp_pair(book, kind, marks, standings):
    """The gifts of the coming-rules that fire, as a pair of tuples, and the numbers of these rules."""
    marks, standings, got, fired = set(marks), set(standings), (set(), set()), []
    for rule in book.rules:
        if rule.mode != "coming" or not fits(rule, kind):
            continue
        if hold(rule.thread, book.marks, marks) and hold(rule.sender, book.standings, standings):
            fired.append(rule.number)
            for held in ((marks, got[0]) if rule.deed == "mark" else (standings, got[1])):
                held.add(rule.gift)
    return (in_order(book.marks, got[0]), in_order(book.standings, got[1])), tuple(fired)


def bears(book, kind, own, had):
    """What a letter bears in a thread that has these marks."""
    given = [
        rule.gift for rule in book.rules
        if rule.mode == "always" and fits(rule, kind) and hold(rule.thread, book.marks, had)
    ]
    return in_order(book.marks, set(own) | set(given))


class SlowHouse:
    """A house that keeps letters, stamps, sights and deeds of hands, and works out all else when it is asked."""

    def __init__(self, book):
        self.book = book
        self.letters, self.stamps, self.sights = {}, {}, {}
        self.hand_marks, self.hand_standings, self.words = set(), set(), set()

    def come(self, letter):
        if letter.number in self.letters:
            assert self.letters[letter.number] == letter
            return False
        view = self.view_of(self.joined(letter))
        sight = marks_had(self.book, *view), self.standings(letter.sender)
        self.sights[letter.number] = sight
        self.stamps[letter.number] = stamp_pair(self.book, kind_of(self.book.tests, letter), *sight)[0]
        self.letters[letter.number] = letter
        return True

    def do(self, event):
        if event[0] == "letter":
            return self.come(event[1])
        if event[0] == "seen":
            _, number, seen, count, device = event
            before = self.last(number)
            self.words.add((number, count, device, seen))
            return self.last(number) != before
        held = self.hand_marks if event[0] == "mark" else self.hand_standings
        before = len(held)
        held.add(event[1:])
        return len(held) > before

    def play(self, events):
        return [self.do(event) for event in events]

    def last(self, number):
        said = [word[1:] for word in self.words if word[0] == number]
        return max(said) if said else None

    def kind(self, number):
        return kind_of(self.book.tests, self.letters[number])

    def hands(self, number):
        return in_order(self.book.marks, [mark for other, mark in self.hand_marks if other == number])

    def own(self, number):
        return set(self.stamps[number][0]) | set(self.hands(number))

    def view_of(self, numbers):
        marks = {mark for number in numbers for mark in self.own(number)}
        rules = {rule for number in numbers for rule in always_numbers(self.book, self.kind(number))}
        return tuple(sorted(marks)), tuple(sorted(rules))

    def thread(self, number):
        return threads_of(list(self.letters.values())).get(number, frozenset())

    def members(self, number):
        return tuple(sorted(each for each in self.thread(number) if each in self.letters))

    def joined(self, letter):
        found = threads_of(list(self.letters.values()))
        known = set().union(*(found.get(number, ()) for number in (letter.number,) + letter.answers))
        return sorted(number for number in known if number in self.letters)

    def had(self, number):
        return marks_had(self.book, *self.view_of(self.members(number)))

    def marks(self, number):
        return bears(self.book, self.kind(number), self.own(number), self.had(number))

    def standings(self, sender):
        given = {standing for other, standing in self.hand_standings if other == sender}
        for letter in self.letters.values():
            if letter.sender == sender:
                given |= set(self.stamps[letter.number][1])
        return in_order(self.book.standings, given)

    def by_hand(self, sender):
        return in_order(self.book.standings, [each for other, each in self.hand_standings if other == sender])

    def summary(self):
        parents, _ = parents_of(list(self.letters.values()))
        letters = tuple(
            (
                number, self.letters[number].written(), self.stamps[number], self.hands(number), self.marks(number),
                parents[number], min(self.thread(number)), self.last(number),
            )
            for number in sorted(self.letters)
        )
        senders = {letter.sender for letter in self.letters.values()} | {sender for sender, _ in self.hand_standings}
        having = tuple(
            (sender, self.by_hand(sender), self.standings(sender))
            for sender in sorted(senders) if self.standings(sender)
        )
        waiting = {number for number, _ in self.hand_marks} | {word[0] for word in self.words}
        return letters, having, tuple(
            (number, self.hands(number), self.last(number)) for number in sorted(waiting) if number not in self.letters
        )


# Random rows of events


def random_mail(rng, number, most_number):
    """A letter that passes one test or another."""
    others = [each for each in range(1, most_number + 1) if each != number]
    answers = rng.sample(others, rng.choice([0, 1, 1, 2, 3]))
    subject = rng.sample(WORDS, rng.choice([0, 0, 1, 2]))
    words = [rng.choice(WORDS) for _ in range(rng.choice([0, 0, 1, 2, 4]))]
    return Letter(number, rng.choice(PERSONS), rng.choice(HOUSES), answers=answers, subject=subject, words=words)


def random_events(rng, book, many, most_number=8):
    """A consistent row of events that hands may do by the book."""
    letters = {number: random_mail(rng, number, most_number) for number in range(1, most_number + 1)}
    events = []
    while len(events) < many:
        word = rng.choice(["letter", "letter", "letter", "mark", "standing", "seen"])
        if word == "letter":
            events.append(("letter", letters[rng.randint(1, most_number)]))
        elif word == "mark" and book.hand_marks:
            events.append(("mark", rng.randint(1, most_number), rng.choice(book.hand_marks)))
        elif word == "standing" and book.hand_standings:
            sender = f"{rng.choice(PERSONS)} at {rng.choice(HOUSES)}"
            events.append(("standing", sender, rng.choice(book.hand_standings)))
        elif word == "seen":
            number, count = rng.randint(1, most_number), rng.randint(0, 2)
            events.append(("seen", number, rng.choice([True, False]), count, rng.choice(DEVICES)))
    return events
