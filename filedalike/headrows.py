"""Reading and writing the texts of letters, one or many."""

from filedalike.errors import MailError
from filedalike.letters import Letter, MOST_SUBJECT, MOST_WORDS, are_answers, are_names
from filedalike.names import is_name, is_number, is_numeral

FIELDS = ("number", "from", "answers", "subject")
NEEDED = ("number", "from")
SEPARATOR = "==="


class BadRow(MailError):
    """A row of a text is wrong; row 0 stands for a field that is missing."""

    def __init__(self, row):
        super().__init__("a row of a letter is wrong")
        self.row = row


def read_letter(text):
    """The letter of a text."""
    return letter_of_rows(text.split("\n"))


def read_letters(text):
    """The letters of a text in which rows === stand between them."""
    if text == "":
        return []
    rows = text.split("\n")
    ends = [at for at, row in enumerate(rows) if row == SEPARATOR] + [len(rows)]
    letters = []
    start = 0
    for end in ends:
        letters.append(letter_of_part(rows[start:end], start))
        start = end + 1
    return letters


def written_letters(letters):
    """The text of the letters, in the given order."""
    return "\n===\n".join([letter.written() for letter in letters])


def letter_of_part(rows, before):
    """The letter of the rows that stand behind so many rows of a whole text."""
    try:
        return letter_of_rows(rows)
    except BadRow as wrong:
        # Row 0, a missing field, is told as the first row of the part. A part without rows misses its fields.
        raise BadRow(before + max(1, wrong.row)) from None


def letter_of_rows(rows):
    """The letter of these rows."""
    empty = [at for at, row in enumerate(rows) if row == ""]
    head_end = empty[0] if empty else len(rows)
    fields = read_head(rows[:head_end])
    if head_end == len(rows) - 1:
        raise BadRow(head_end + 1)
    body = read_body(rows, head_end + 1)
    check_fields(fields)
    if len(body) > MOST_WORDS:
        raise BadRow(body[MOST_WORDS][1])
    return made_letter(fields, [word for word, _ in body])


def read_head(rows):
    """The fields of head rows: a dict of tuples (number of the first row, items) by field."""
    fields = {}
    latest = None
    for at, row in enumerate(rows):
        lead, _, text = row.partition(": ")
        if row.startswith(" ") and latest is not None:
            lead, text = latest, row[1:]
        elif lead not in FIELDS or lead in fields:
            raise BadRow(at + 1)
        items = text.split(" ")
        if not all([is_name(item) or is_numeral(item) for item in items]):
            raise BadRow(at + 1)
        first, earlier = fields.get(lead, (at + 1, []))
        fields[lead] = (first, earlier + items)
        latest = lead
    return fields


def read_body(rows, start):
    """The words of the rows from this index on: tuples (word, number of its row)."""
    body = []
    for at in range(start, len(rows)):
        words = rows[at].split(" ")
        if not all([is_name(word) for word in words]):
            raise BadRow(at + 1)
        for word in words:
            body.append((word, at + 1))
    return body


def check_fields(fields):
    """Raise BadRow for the first field that is missing or wrong."""
    for field in FIELDS:
        if field in fields:
            first, _ = fields[field]
            if not is_right(field, fields):
                raise BadRow(first)
        elif field in NEEDED:
            raise BadRow(0)


def is_right(field, fields):
    """Whether the items of a field make a right letter, given that the fields before it do."""
    _, items = fields[field]
    if field == "number":
        return len(items) == 1 and is_numeral(items[0]) and is_number(int(items[0]))
    if field == "from":
        return len(items) == 3 and is_name(items[0]) and items[1] == "at" and is_name(items[2])
    if field == "answers":
        if not all([is_numeral(item) for item in items]):
            return False
        return are_answers([int(item) for item in items], int(fields["number"][1][0]))
    return are_names(items, MOST_SUBJECT)


def made_letter(fields, words):
    """The letter of checked fields and words."""
    number = int(fields["number"][1][0])
    person, _, house = fields["from"][1]
    _, answers = fields.get("answers", (0, []))
    _, subject = fields.get("subject", (0, []))
    return Letter(
        number, person, house, answers=[int(item) for item in answers], subject=subject, words=words
    )
