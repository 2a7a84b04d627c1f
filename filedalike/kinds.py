"""Own tests, and the kinds of letters and senders that they tell apart."""

from filedalike.errors import MailError
from filedalike.letters import Letter, MOST_SUBJECT, MOST_WORDS
from filedalike.names import ALPHABET, is_name, is_number, is_numeral

MOST_HOUSES = 6


class BadTest(MailError):
    """The argument of a test, or its text, is wrong."""

    def __init__(self, told):
        super().__init__("an own test is told wrongly")
        self.told = told


class NoKind(MailError):
    """No letter has this kind, or no house this sender kind."""

    def __init__(self, kind):
        super().__init__("there is no such kind")
        self.kind = kind


class OwnTest:
    """What all own tests share; callers create the classes below it."""

    LEAD = ""

    def holds(self, letter):
        """Whether the test holds for a letter."""
        raise NotImplementedError("each own test says for which letters it holds")

    def written(self):
        """The text of the test."""
        raise NotImplementedError("each own test has a text of its own")

    def __eq__(self, other):
        return isinstance(other, OwnTest) and self.written() == other.written()


class WordTest(OwnTest):
    """Holds if the word is among the words of the letter."""

    LEAD = "word"

    def __init__(self, word):
        if not is_name(word):
            raise BadTest(word)
        self.word = word

    def holds(self, letter):
        """Whether the test holds for a letter."""
        return self.word in letter.words

    def written(self):
        """The text of the test."""
        return f"{self.LEAD} {self.word}"


class SubjectTest(OwnTest):
    """Holds if the word is in the subject of the letter."""

    LEAD = "subject"

    def __init__(self, word):
        if not is_name(word):
            raise BadTest(word)
        self.word = word

    def holds(self, letter):
        """Whether the test holds for a letter."""
        return self.word in letter.subject

    def written(self):
        """The text of the test."""
        return f"{self.LEAD} {self.word}"


class HouseTest(OwnTest):
    """Holds if the house of the letter is one of the houses."""

    LEAD = "house"

    def __init__(self, *houses):
        if not are_houses(houses):
            raise BadTest(houses)
        self.houses = tuple(sorted(houses))

    def holds(self, letter):
        """Whether the test holds for a letter."""
        return letter.house in self.houses

    def written(self):
        """The text of the test."""
        return " ".join((self.LEAD,) + self.houses)


class LengthTest(OwnTest):
    """Holds if the letter has at least so many words."""

    LEAD = "words"

    def __init__(self, least):
        if not is_length(least):
            raise BadTest(least)
        self.least = least

    def holds(self, letter):
        """Whether the test holds for a letter."""
        return len(letter.words) >= self.least

    def written(self):
        """The text of the test."""
        return f"{self.LEAD} {self.least}"


def are_houses(houses):
    """Whether a tuple of any values has 1 to 6 houses without duplicates."""
    if not 1 <= len(houses) <= MOST_HOUSES or not all([is_name(house) for house in houses]):
        return False
    return len(set(houses)) == len(houses)


def is_length(value):
    """Whether a value, of any kind, is an integer from 1 to 40."""
    return is_number(value) and value <= MOST_WORDS


def read_test(text):
    """The own test of a text."""
    lead, _, rest = text.partition(" ")
    if lead == WordTest.LEAD and is_name(rest):
        return WordTest(rest)
    if lead == SubjectTest.LEAD and is_name(rest):
        return SubjectTest(rest)
    houses = tuple(rest.split(" "))
    if lead == HouseTest.LEAD and are_houses(houses):
        return HouseTest(*houses)
    if lead == LengthTest.LEAD and is_numeral(rest) and is_length(int(rest)):
        return LengthTest(int(rest))
    raise BadTest(text)


def kind_of(tests, letter):
    """The kind of a letter."""
    return tuple([test.holds(letter) for test in tests])


def kinds(tests):
    """The possible kinds, ascending."""
    found = [()]
    for _ in tests:
        found = [kind + (entry,) for kind in found for entry in (False, True)]
    return [kind for kind in found if is_possible(tests, kind)]


def barred(tests, kind):
    """The least indexes whose entries no letter can have together, or None."""
    for indexes in index_tuples(len(tests)):
        if not is_possible([tests[at] for at in indexes], [kind[at] for at in indexes]):
            return indexes
    return None


def sender_kind(tests, house):
    """The sender kind of a house."""
    return tuple([house in test.houses if test.LEAD == HouseTest.LEAD else None for test in tests])


def sender_kinds(tests):
    """The sender kinds that some house has, ascending."""
    return sorted({sender_kind(tests, house) for house in houses_to_try(tests)})


def kinds_of_sender(tests, sender):
    """The possible kinds of the letters from a sender kind, ascending."""
    return [kind for kind in kinds(tests) if sender_part(tests, kind) == sender]


def house_of(tests, sender):
    """The first house of a sender kind."""
    for house in houses_to_try(tests):
        if sender_kind(tests, house) == sender:
            return house
    raise NoKind(sender)


def letter_of(tests, kind, *, number=1, person="a", house=None, answers=()):
    """A plain letter of a kind."""
    if len(kind) != len(tests) or not is_possible(tests, kind):
        raise NoKind(kind)
    sender = sender_part(tests, kind)
    if house is None:
        house = house_of(tests, sender)
    elif sender_kind(tests, house) != sender:
        raise NoKind(kind)
    subject = words_asked(tests, kind, SubjectTest.LEAD, True)
    words = words_asked(tests, kind, WordTest.LEAD, True)
    more = least_words(tests, kind) - len(words)
    words = words + [filling_word(tests)] * more
    return Letter(number, person, house, answers=answers, subject=subject, words=words)


def is_possible(tests, kind):
    """Whether some letter has these entries at these tests."""
    wanted = words_asked(tests, kind, SubjectTest.LEAD, True)
    unwanted = words_asked(tests, kind, SubjectTest.LEAD, False)
    if len(wanted) > MOST_SUBJECT or any([word in unwanted for word in wanted]):
        return False
    wanted = words_asked(tests, kind, WordTest.LEAD, True)
    unwanted = words_asked(tests, kind, WordTest.LEAD, False)
    if least_words(tests, kind) > most_words(tests, kind) or any([word in unwanted for word in wanted]):
        return False
    return sender_part(tests, kind) in sender_kinds(tests)


def words_asked(tests, kind, lead, entry):
    """The words of the tests with this lead and entry, in the order of the tests, without duplicates."""
    words = []
    for test, passed in zip(tests, kind):
        if test.LEAD == lead and passed == entry and test.word not in words:
            words.append(test.word)
    return words


def least_words(tests, kind):
    """How many words a letter with these entries has at least."""
    asked = [test.least for test, passed in zip(tests, kind) if test.LEAD == LengthTest.LEAD and passed]
    return max([len(words_asked(tests, kind, WordTest.LEAD, True))] + asked)


def most_words(tests, kind):
    """How many words a letter with these entries has at most."""
    asked = [test.least for test, passed in zip(tests, kind) if test.LEAD == LengthTest.LEAD and not passed]
    return min([MOST_WORDS] + [least - 1 for least in asked])


def filling_word(tests):
    """The first of a to z that no word test names."""
    named = [test.word for test in tests if test.LEAD == WordTest.LEAD]
    return [word for word in ALPHABET if word not in named][0]


def sender_part(tests, kind):
    """The entries of a kind at house tests, with None at every other test."""
    return tuple([passed if test.LEAD == HouseTest.LEAD else None for test, passed in zip(tests, kind)])


def houses_to_try(tests):
    """The houses of all house tests and the names a to z, ascending."""
    named = [house for test in tests if test.LEAD == HouseTest.LEAD for house in test.houses]
    return sorted(set(named + list(ALPHABET)))


def index_tuples(many):
    """All ascending tuples of indexes below a number, shorter ones first, then ascending."""
    found = [()]
    for at in range(many):
        found = found + [indexes + (at,) for indexes in found]
    return sorted(found, key=lambda indexes: (len(indexes), indexes))
