"""Which deeds of which devices are had: sets of pairs of a device and a number."""

from filedalike.errors import MailError
from filedalike.names import is_name, is_number, is_numeral

# Which pairs a set made of two sets has: those in neither, in the second alone, in the first alone, in both.
BOTH = (False, False, False, True)
FIRST_ALONE = (False, False, True, False)


class BadHad(MailError):
    """A text is not that of a Had."""

    def __init__(self, text):
        super().__init__("this is not the text of a set of pairs")
        self.text = text


class Had:
    """A set of pairs (device, number), kept in unbroken stretches; it never changes.

    Callers give pairs alone; triples (device, first, last) are given to Had.of.
    """

    def __init__(self, pairs=(), *, rows=()):
        self.rows = stretches([(device, number, number) for device, number in pairs] + list(rows))

    @classmethod
    def of(cls, rows):
        """The Had of all pairs in triples (device, first, last)."""
        return cls(rows=rows)

    @classmethod
    def read(cls, text):
        """The Had of a text. Raises BadHad."""
        rows = read_rows(text)
        if rows is None:
            raise BadHad(text)
        made = cls.of(rows)
        # There is one text for each set, so another order or a divided stretch is wrong.
        if made.written() != text:
            raise BadHad(text)
        return made

    def written(self):
        """The text of the set."""
        parts = []
        before = None
        for device, first, last in self.rows:
            stretch = str(first) if first == last else f"{first}-{last}"
            parts.append(f",{stretch}" if device == before else f"; {device} {stretch}")
            before = device
        # Each device has "; " before it, which the first one drops.
        return "".join(parts)[2:]

    def many(self):
        """The number of pairs."""
        return sum([last - first + 1 for _, first, last in self.rows])

    def following(self, device):
        """The number behind the greatest one of a device; 1 if it has none."""
        return max([last for other, _, last in self.rows if other == device], default=0) + 1

    def gaps(self):
        """The Had of all pairs that are lacked although a greater number of the device is had."""
        return Had.of([(device, 1, last) for device, _, last in self.rows]) - self

    def __contains__(self, pair):
        device, number = pair
        return any([other == device and first <= number <= last for other, first, last in self.rows])

    def __or__(self, other):
        return Had(rows=self.rows + other.rows)

    def __and__(self, other):
        return Had(rows=combined(self.rows, other.rows, BOTH))

    def __sub__(self, other):
        return Had(rows=combined(self.rows, other.rows, FIRST_ALONE))

    def __eq__(self, other):
        return isinstance(other, Had) and self.rows == other.rows

    def __iter__(self):
        return iter(self.rows)


def stretches(rows):
    """The longest unbroken stretches of triples (device, first, last) in any order, a tuple."""
    found = []
    for device, first, last in sorted(rows):
        if found and found[-1][0] == device and first <= found[-1][2] + 1:
            found[-1] = (device, found[-1][1], max(last, found[-1][2]))
        else:
            found.append((device, first, last))
    return tuple(found)


def combined(ones, others, wanted):
    """The stretches that are wanted of two tuples of longest stretches, a list."""
    edges = []
    for rows, weight in ((ones, 2), (others, 1)):
        for device, first, last in rows:
            edges.append((device, first, weight))
            edges.append((device, last + 1, -weight))
    found = []
    inside = 0
    begun = None
    for device, number, weight in sorted(edges):
        if wanted[inside]:
            found.append((device, begun, number - 1))
        inside = inside + weight
        begun = number
    return found


def read_rows(text):
    """The triples of a text, a list, or None if a part of it has a wrong form."""
    rows = []
    for part in text.split("; ") if text else []:
        device, _, rest = part.partition(" ")
        for stretch in rest.split(","):
            first, dash, last = stretch.partition("-")
            numbers = [first, last] if dash else [first, first]
            if not is_name(device) or not all([is_numeral(number) for number in numbers]):
                return None
            rows.append((device, int(numbers[0]), int(numbers[1])))
    if not all([first <= last and is_number(last) for _, first, last in rows]):
        return None
    return rows
