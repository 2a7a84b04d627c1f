"""Letters and their written texts."""

from filedalike.errors import Clash, MailError
from filedalike.names import is_name, is_number

MOST_ANSWERS = 8
MOST_SUBJECT = 8
MOST_WORDS = 40
ANSWERS_IN_ROW = 3
SUBJECT_IN_ROW = 4
WORDS_IN_ROW = 8


class BadLetter(MailError):
    """A field of a letter is wrong."""

    def __init__(self, field):
        super().__init__("a field of a letter is wrong")
        self.field = field


class Letter:
    """A letter; it never changes."""

    def __init__(self, number, person, house, *, answers=(), subject=(), words=()):
        field = wrong_field(number, person, house, answers, subject, words)
        if field is not None:
            raise BadLetter(field)
        self.number = number
        self.person = person
        self.house = house
        self.answers = tuple(answers)
        self.subject = tuple(subject)
        self.words = tuple(words)
        self.sender = f"{person} at {house}"

    def written(self):
        """The text of the letter."""
        rows = [f"number: {self.number}", f"from: {self.sender}"]
        rows = rows + field_rows("answers", self.answers, ANSWERS_IN_ROW)
        rows = rows + field_rows("subject", self.subject, SUBJECT_IN_ROW)
        if self.words:
            rows = rows + [""] + item_rows(self.words, WORDS_IN_ROW)
        return "\n".join(rows)

    def __str__(self):
        return str(self.written())

    def __eq__(self, other):
        return (
            isinstance(other, Letter)
            and self.number == other.number
            and self.person == other.person
            and self.house == other.house
            and self.answers == other.answers
            and self.subject == other.subject
            and self.words == other.words
        )


def wrong_field(number, person, house, answers, subject, words):
    """The first field that is wrong, or None."""
    if not is_number(number):
        return "number"
    if not is_name(person):
        return "person"
    if not is_name(house):
        return "house"
    if not are_answers(answers, number):
        return "answers"
    if not are_names(subject, MOST_SUBJECT):
        return "subject"
    if not are_names(words, MOST_WORDS):
        return "words"
    return None


def are_answers(value, number):
    """Whether a value, of any kind, may be the answers of the letter with this number."""
    if not isinstance(value, (list, tuple)) or len(value) > MOST_ANSWERS:
        return False
    if not all([is_number(item) for item in value]):
        return False
    return number not in value and len(set(value)) == len(value)


def are_names(value, most):
    """Whether a value, of any kind, is a list or tuple of so many names at most."""
    if not isinstance(value, (list, tuple)) or len(value) > most:
        return False
    return all([is_name(item) for item in value])


def item_rows(items, width):
    """The items in rows of this width, the last one perhaps shorter."""
    texts = [str(item) for item in items]
    return [" ".join(texts[start:start + width]) for start in range(0, len(texts), width)]


def field_rows(lead, items, width):
    """The head row of a field and its continuation rows; none without items."""
    rows = item_rows(items, width)
    return [f"{lead}: {row}" if at == 0 else f" {row}" for at, row in enumerate(rows)]


def has_come(letters, letter):
    """Whether an equal letter stands in a dict of letters by number; raises Clash for an unequal one."""
    other = letters.get(letter.number)
    if other is None:
        return False
    if other != letter:
        raise Clash(letter.number)
    return True
