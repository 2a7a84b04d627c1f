"""Counts of the letters that have come to a desk."""

from filedalike.query import Bears, Every


class Counts:
    """Counts of the letters of a desk, which is asked anew each time."""

    def __init__(self, desk):
        self._desk = desk

    def by_mark(self):
        """Tuples (mark, count) for each mark of the book, in book order, a list."""
        return [(mark, self.total(Bears(mark))) for mark in self._desk.house.book.marks]

    def by_sender(self):
        """Tuples (sender, count, unseen), ascending, a list."""
        house = self._desk.house
        return counted([(letter.sender, house.seen_of(letter.number)) for letter in house])

    def by_thread(self):
        """Tuples (name, count, unseen), ascending, a list."""
        house = self._desk.house
        return counted([(house.thread_of(letter.number), house.seen_of(letter.number)) for letter in house])

    def facets(self, query):
        """Tuples (mark, count) of the letters that a query finds, without zeros, greater counts first, a list."""
        house = self._desk.house
        marks = house.book.marks
        rows = list(zip(marks, mark_counts(house, marks, self._desk.find(query))))
        # Sorting keeps the book order of rows with equal counts.
        return sorted([(mark, many) for mark, many in rows if many > 0], key=less_of)

    def spread(self, query):
        """How many letters that a query finds bear each mark, by senders: a list of rows of text."""
        house = self._desk.house
        marks = house.book.marks
        found = self._desk.find(query)
        sent = {}
        for number in found:
            sent.setdefault(house[number].sender, []).append(number)
        rows = [row_of(sender, mark_counts(house, marks, sent[sender])) for sender in sorted(sent)]
        return [row_of("sender", marks)] + rows + [row_of("all", mark_counts(house, marks, found))]

    def total(self, query=None):
        """How many letters a query finds; all letters if it is None."""
        return len(self._desk.find(Every() if query is None else query))


def counted(rows):
    """Tuples (key, count, unseen) of rows (key, seen), ascending, a list."""
    counts = {}
    for key, seen in rows:
        many, unseen = counts.get(key, (0, 0))
        counts[key] = (many + 1, unseen if seen else unseen + 1)
    return [(key,) + counts[key] for key in sorted(counts)]


def mark_counts(house, marks, numbers):
    """How many of these letters bear each mark, a list in the order of the marks."""
    borne = [house.marks_of(number) for number in numbers]
    return [len([had for had in borne if mark in had]) for mark in marks]


def less_of(row):
    """What rows (mark, count) are ordered by."""
    return -row[1]


def row_of(first, others):
    """A row of text with columns."""
    return f"{first:<20}" + "".join([f"{other:>9}" for other in others])
