"""What two houses tell behind rows of events, and which events of the rows are needed for it."""

from filedalike.house import House


class Doubt:
    """Whether two houses tell unlike things of a letter or a sender.

    The events are pairs (row, event) with the row 0 or 1. If there is an edit, the first house changes to the second
    book between the rows.
    """

    def __init__(self, first, second, *, is_edit=False, number=None, sender=None):
        self.first = first
        self.second = second
        self.is_edit = is_edit
        self.number = number
        self.sender = sender

    def told_by_houses(self, rows):
        """The marks of the letter, or the standings of the sender, in both houses; a pair."""
        return self._told_by(self._first_house(rows)), self._told_by(self._second_house(rows))

    def _first_house(self, rows):
        house = House(self.first)
        house.play(events_of(rows, 0))
        if self.is_edit:
            house.edit(self.second)
        house.play(events_of(rows, 1))
        return house

    def _second_house(self, rows):
        house = House(self.second)
        house.play(events_of(rows, 0) + events_of(rows, 1))
        return house

    def _told_by(self, house):
        if self.sender is not None:
            return house.standings_of(self.sender)
        return house.marks_of(self.number) if self.number in house else None

    def needed(self, rows):
        """As few of these events as tell unlike things: none of them can be left out."""
        at = len(rows)
        while at > 0:
            at -= 1
            fewer = rows[:at] + rows[at + 1:]
            here, there = self.told_by_houses(fewer)
            if here != there:
                # An event that was needed beside the one that is left out may be idle now.
                rows = fewer
                at = len(rows)
        return rows


def events_of(rows, row):
    """The events of one of the rows, a list."""
    return [event for other, event in rows if other == row]
