"""Fault finders: told tables of reached views and told orders, judged with the help of step alone."""

from filedalike.always import View, union_of
from filedalike.house import is_event
from filedalike.kinds import kind_of, sender_kinds
from filedalike.names import those_in
from filedalike.records import Records
from filedalike.strata import check_ring
from filedalike.toldtables import ToldTable
from filedalike.views import step


def table_fault(book, threads, senders):
    """A fault of a table of told threads and told senders that is not closed, or None. Raises RingThroughLacks."""
    # Where everything is told to cost nothing, nothing costs too much.
    return cost_fault(
        book,
        [(marks, rules, 0) for marks, rules in threads],
        [(sender_kind, standings, 0) for sender_kind, standings in senders],
    )


def cost_fault(book, threads, senders):
    """A fault of a table with a row that is missing or costs too much, or None. Raises RingThroughLacks."""
    check_ring(book)
    table = ToldTable(book, threads, senders)
    for fault in each_fault(table):
        return fault
    return None


def each_fault(table):
    """The faults of a table: results that are missing or cost too much."""
    for sender_kind in table.kinds:
        if is_dearer(table.sender_costs, (sender_kind, ()), 0):
            yield "start", sender_kind
    for sender, cost in table.sender_costs.items():
        for standing in table.book.hand_standings:
            if is_dearer(table.sender_costs, sender_given(table.book, sender, standing), cost + 1):
                yield "standing", sender[0], sender[1], standing
    for thread, cost in table.thread_costs.items():
        for mark in table.book.hand_marks:
            if is_dearer(table.thread_costs, thread_put(thread, mark), cost + 1):
                yield "mark", thread, mark
    for joined, (cost, lot) in table.lots.items():
        for sender, sender_cost in table.sender_costs.items():
            for kind, side in letter_faults(table, joined, sender, cost + sender_cost + 1):
                yield "letter", list(lot), sender[0], sender[1], kind, side


def letter_faults(table, joined, sender, most):
    """Pairs (kind, side) for the results of letters that are missing or cost more than this, a list."""
    sender_kind, standings = sender
    faults = []
    for kind in table.kinds[sender_kind]:
        after = table.letter_step(joined, standings, kind)
        if is_dearer(table.thread_costs, after.view.key(), most):
            faults.append((kind, "thread"))
        if is_dearer(table.sender_costs, (sender_kind, after.standings), most):
            faults.append((kind, "sender"))
    return faults


def is_dearer(costs, row, most):
    """Whether a row is missing in a table of costs, or costs more than this."""
    return row not in costs or costs[row] > most


def sender_given(book, sender, standing):
    """The told sender behind the gift of a standing."""
    sender_kind, standings = sender
    return sender_kind, those_in(book.standings, standings + (standing,))


def thread_put(thread, mark):
    """The told thread behind the putting of a mark."""
    return union_of(thread, ((mark,), ()))


def ground_fault(book, threads, senders):
    """The side and the index of the first row with a wrong ground, or None. Raises RingThroughLacks."""
    check_ring(book)
    table = ToldTable(book, [row[:3] for row in threads], [row[:3] for row in senders])
    for at, (marks, rules, cost, ground) in enumerate(threads):
        if not is_thread_ground(table, (marks, rules), cost, ground):
            return "thread", at
    for at, (sender_kind, standings, cost, ground) in enumerate(senders):
        if not is_sender_ground(table, (sender_kind, standings), cost, ground):
            return "sender", at
    return None


def is_thread_ground(table, thread, cost, ground):
    """Whether the ground of a told thread is right."""
    if ground[0] == "hand":
        _, mark, before = ground
        if mark not in table.book.hand_marks or is_dearer(table.thread_costs, before, cost - 1):
            return False
        return thread_put(before, mark) == thread
    _, kind, joined, sender_kind, standings = ground
    if not is_letter(table, kind, joined, (sender_kind, standings), cost):
        return False
    return table.letter_step(joined, standings, kind).view.key() == thread


def is_sender_ground(table, sender, cost, ground):
    """Whether the ground of a told sender is right."""
    sender_kind, standings = sender
    if ground[0] == "start":
        return standings == ()
    if ground[0] == "hand":
        _, standing, before = ground
        told = (sender_kind, before)
        if standing not in table.book.hand_standings or is_dearer(table.sender_costs, told, cost - 1):
            return False
        return sender_given(table.book, told, standing) == sender
    _, kind, joined, before = ground
    if not is_letter(table, kind, joined, (sender_kind, before), cost):
        return False
    return table.letter_step(joined, before, kind).standings == standings


def is_letter(table, kind, joined, sender, cost):
    """Whether a letter of this kind can come at some lot with this view by a told sender, for this cost."""
    if sender not in table.sender_costs or kind not in table.kinds[sender[0]] or joined not in table.lots:
        return False
    return table.lot_cost(joined) + table.sender_costs[sender] + 1 <= cost


def threads_told(closure):
    """The thread views of a closure as rows (marks, rules, cost, ground), a list."""
    return [
        (view.marks, view.rules, closure.thread_cost(view), told_step(closure.thread_step(view)))
        for view in closure.thread_views()
    ]


def senders_told(closure):
    """The sender views of a closure as rows (sender kind, standings, cost, ground), a list."""
    return [
        (
            sender_kind,
            standings,
            closure.sender_cost(sender_kind, standings),
            told_step(closure.sender_step(sender_kind, standings)),
        )
        for sender_kind in sender_kinds(closure.book.tests)
        for standings in closure.sender_views(sender_kind)
    ]


def told_step(last_step):
    """A step of a closure with pairs in place of views."""
    return tuple([part.key() if isinstance(part, View) else part for part in last_step])


def orders_fault(book, first, second, number):
    """The word for what is wrong with two orders that are to show a bound book, or None. Raises RingThroughLacks."""
    check_ring(book)
    if [at for at, event in enumerate(first) if is_coming(event, number)] != [len(first) - 1]:
        return "number"
    if not all([is_allowed(book, event) for event in first]):
        return "events"
    if second != first[-1:] + first[:-1]:
        return "order"
    letters = [event[1] for event in first if event[0] == "letter"]
    if any([one.number == other.number and one != other for one in letters for other in letters]):
        return "clash"
    _, letter = first[-1]
    view, standings = found_by(book, first[:-1], letter)
    kind = kind_of(book.tests, letter)
    here = step(book, view, standings, kind)
    alone = step(book, View(), (), kind)
    return "alike" if here.stamp == alone.stamp else None


def is_coming(event, number):
    """Whether an event is the coming of a letter with this number."""
    return is_event(event) and event[0] == "letter" and event[1].number == number


def is_allowed(book, event):
    """Whether an event is a letter, or a mark or standing that hands may give."""
    if not is_event(event):
        return False
    if event[0] == "mark":
        return event[2] in book.hand_marks
    if event[0] == "standing":
        return event[2] in book.hand_standings
    return event[0] == "letter"


def found_by(book, events, letter):
    """The view and the standings that a letter finds behind these events."""
    records = Records()
    for event in events:
        if event[0] == "mark":
            records.put(event[1], event[2])
        elif event[0] == "standing":
            records.give(event[1], event[2])
        elif not records.knows(event[1]):
            other = event[1]
            view = records.view_with(book, other)
            standings = records.standings_of(book, other.sender)
            records.come(other, step(book, view, standings, kind_of(book.tests, other)).stamp)
    return records.view_with(book, letter), records.standings_of(book, letter.sender)
