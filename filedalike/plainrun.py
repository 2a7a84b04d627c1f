"""A run that keeps nothing: for each letter everything is worked out anew from what happened before."""

from filedalike.always import borne, thread_marks
from filedalike.house import NotByHand
from filedalike.kinds import kind_of
from filedalike.records import Records
from filedalike.stamps import stamp


def plain_run(*stages):
    """What letters bear and senders have behind the stages: a pair of lists. Raises Clash and NotByHand."""
    records = Records()
    for book, events in stages:
        for event in events:
            run_event(records, book, event)
    if not stages:
        return [], []
    last_book, _ = stages[-1]
    letters = [(letter.number, marks_of(records, last_book, letter)) for letter in records.letters()]
    senders = [(sender, records.standings_of(last_book, sender)) for sender in records.senders()]
    return letters, senders


def run_event(records, book, event):
    """Add an event to the records; words about numbers leave no trace."""
    if event[0] == "letter":
        run_letter(records, book, event[1])
    elif event[0] == "mark":
        _, number, mark = event
        if mark not in book.hand_marks:
            raise NotByHand(mark)
        records.put(number, mark)
    elif event[0] == "standing":
        _, sender, standing = event
        if standing not in book.hand_standings:
            raise NotByHand(standing)
        records.give(sender, standing)


def run_letter(records, book, letter):
    """Add the coming of a letter to the records."""
    if not records.knows(letter):
        marks = thread_marks(book, records.view_with(book, letter))
        standings = records.standings_of(book, letter.sender)
        records.come(letter, stamp(book, kind_of(book.tests, letter), marks, standings))


def marks_of(records, book, letter):
    """The marks that a letter of the records bears."""
    had = thread_marks(book, records.view_with(book, letter))
    return borne(book, kind_of(book.tests, letter), records.own_marks(letter.number), had)
