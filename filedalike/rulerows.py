"""Reading rule rows."""

from filedalike.rules import Mode, Rule


def read_rule_row(row, number, marks, standings, many_tests):
    """The rule of a row over marks, standings and so many tests, or None if the row is wrong."""
    parts = row.split(" ")
    if len(parts) < 4 or parts[0] != "rule" or not is_deed(parts[1:4], marks, standings):
        return None
    texts = []
    if len(parts) > 4:
        if parts[4] != "if":
            return None
        texts = " ".join(parts[5:]).split(", ")
    wishes = read_wishes(texts, marks, standings, many_tests)
    if wishes is None:
        return None
    mode, deed, gift = parts[1:4]
    own, thread, sender = wishes
    if mode == Mode.ALWAYS and not all([wish is None for wish in sender]):
        return None
    return Rule(number, mode, deed, gift, marks, standings, own, thread, sender)


def is_deed(parts, marks, standings):
    """Whether three words are a mode, a deed and a gift that stand together."""
    mode, deed, gift = parts
    if deed == "mark":
        return mode in (Mode.COMING, Mode.ALWAYS) and gift in marks
    return deed == "standing" and mode == Mode.COMING and gift in standings


def read_wishes(texts, marks, standings, many_tests):
    """The wishes about own tests, the thread and the sender, three lists, or None if a text is wrong."""
    names = {
        "test": [str(at + 1) for at in range(many_tests)],
        "thread": list(marks),
        "sender": list(standings),
    }
    wishes = {lead: [None] * len(names[lead]) for lead in names}
    for text in texts:
        words = text.split(" ")
        wished = words[0] != "not"
        if not wished:
            words = words[1:]
        if len(words) != 2 or words[0] not in names or words[1] not in names[words[0]]:
            return None
        at = names[words[0]].index(words[1])
        if wishes[words[0]][at] is not None:
            return None
        wishes[words[0]][at] = wished
    return wishes["test"], wishes["thread"], wishes["sender"]
