"""Reading the rows of a book, one behind the other."""

from filedalike.kinds import BadTest, read_test
from filedalike.names import is_name
from filedalike.rulerows import read_rule_row

GROUPS = ("mark", "standing", "test", "rule")
MOST_MARKS = 3
MOST_STANDINGS = 2
MOST_TESTS = 2
MOST_RULES = 5


class BookRows:
    """What the rows of a book taken so far have named."""

    def __init__(self):
        self.marks = []
        self.hand_marks = []
        self.standings = []
        self.hand_standings = []
        self.tests = []
        self.rules = []
        self._latest = "mark"

    def take(self, row):
        """Take a row behind those taken so far; False if it is wrong there."""
        words = row.split(" ")
        group = words[0]
        if group not in GROUPS or GROUPS.index(group) < GROUPS.index(self._latest):
            return False
        self._latest = group
        if group == "mark":
            return take_name(words, self.marks, self.hand_marks, MOST_MARKS)
        if group == "standing":
            return take_name(words, self.standings, self.hand_standings, MOST_STANDINGS)
        if group == "test":
            return self._take_test(row.removeprefix("test "))
        return self._take_rule(row)

    def _take_test(self, text):
        if len(self.tests) == MOST_TESTS:
            return False
        try:
            self.tests.append(read_test(text))
        except BadTest:
            return False
        return True

    def _take_rule(self, row):
        number = len(self.rules) + 1
        rule = read_rule_row(row, number, self.marks, self.standings, len(self.tests))
        if rule is None or number > MOST_RULES:
            return False
        self.rules.append(rule)
        return True


def take_name(words, names, hand_names, most):
    """Take the words of a mark row or a standing row; False if they are wrong."""
    by_hand = words[2:] == ["by", "hand"]
    if len(words) != 2 and not by_hand:
        return False
    if not is_name(words[1]) or words[1] in names or len(names) == most:
        return False
    names.append(words[1])
    if by_hand:
        hand_names.append(words[1])
    return True
