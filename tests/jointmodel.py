"""A slow model of what two books reach side by side, and pairs of small books made at random."""

from filedalike.book import Book
from tests.housemodel import always_numbers, bears, in_order, stamp_pair
from tests.models import marks_had, possible_kinds, random_rule, rule_row
from tests.reachmodel import NOTHING, sender_kinds_of, sender_part_of, united

SMALL_TESTS = ["word x", "house elm oak", "words 3", "subject y", "house a"]


class SlowJoint:
    """All that is reached, found by applying each rule of reaching until nothing more comes."""

    def __init__(self, first, second, before=None):
        self.books = first, second
        self.kinds = {
            sender: [kind for kind in possible_kinds(first.tests) if sender_part_of(first.tests, kind) == sender]
            for sender in sender_kinds_of(first.tests)
        }
        self.threads, self.joined = set(), {(NOTHING, NOTHING)}
        self.senders = {(sender, ((), ())) for sender in self.kinds}
        self.followed = set()
        if before is not None:
            self.threads = {self.edited(view) for view in before.threads}
            self.senders |= before.senders
            self.followed = {(kind, own, self.edited(view), alone) for kind, own, view, alone in before.followed}
        self.known = {}
        self.spread()

    @staticmethod
    def edited(view):
        (marks, _), (others, rules) = view
        return (marks, rules), (others, rules)

    def after_edit(self):
        second = self.books[1]
        return SlowJoint(second, second, self)

    def size(self):
        return len(self.threads), len(self.joined), len(self.senders), len(self.followed)

    def spread(self):
        before = None
        while before != self.size():
            before = self.size()
            self.joined |= {self.union(joined, thread) for joined in self.joined for thread in self.threads}
            for joined in list(self.joined):
                for sender, standings in list(self.senders):
                    for kind in self.kinds[sender]:
                        _, view, more = self.step(joined, standings, kind)
                        self.threads.add(view)
                        self.senders.add((sender, more))
            for mark in self.books[0].hand_marks:
                self.threads |= {self.union(thread, self.hand(mark)) for thread in self.threads}
            for standing in self.books[0].hand_standings:
                self.senders |= {
                    (sender, tuple(in_order(self.books[0].standings, {*part, standing}) for part in standings))
                    for sender, standings in self.senders
                }
        self.follow_all()

    def follow_all(self):
        for joined in self.joined:
            for _, kind, own, view in self.comings(joined):
                self.followed |= {(kind, own, view, True)} if joined == (NOTHING, NOTHING) else set()
                if joined != (NOTHING, NOTHING) or joined in self.threads:
                    self.followed.add((kind, own, view, False))
        waiting = list(self.followed)
        later = {}
        while waiting:
            kind, own, view, alone = waiting.pop()
            if view not in later:
                later[view] = {
                    after for joined in self.joined for _, _, _, after in self.comings(self.union(view, joined))
                }
            found = {(kind, own, after, False) for after in later[view]}
            for mark in self.books[0].hand_marks:
                after = self.union(view, self.hand(mark))
                found.add((kind, tuple(in_order(self.books[0].marks, {*part, mark}) for part in own), after, alone))
                if not alone:
                    found.add((kind, own, after, False))
            waiting += found - self.followed
            self.followed |= found

    def comings(self, joined):
        """All letters that can come at a joined view."""
        if joined not in self.known:
            self.known[joined] = {
                (sender, kind) + self.step(joined, standings, kind)[:2]
                for sender, standings in self.senders for kind in self.kinds[sender]
            }
        return self.known[joined]

    def step(self, joined, standings, kind):
        parts = []
        for book, key, had in zip(self.books, joined, standings):
            pair, _ = stamp_pair(book, kind, marks_had(book, *key), had)
            view = united(key, (pair[0], always_numbers(book, kind)))
            parts.append((pair[0], view, in_order(book.standings, {*had, *pair[1]})))
        return tuple(zip(*parts))

    @staticmethod
    def union(one, other):
        return united(one[0], other[0]), united(one[1], other[1])

    @staticmethod
    def hand(mark):
        return ((mark,), ()), ((mark,), ())

    def told_followed(self):
        """The followed letters as an ascending list of plain tuples."""
        return sorted({(kind,) + own + view for kind, own, view, _ in self.followed})

    def bears_alike(self):
        """Whether each followed letter bears the same marks in both houses."""
        return all(
            bears(self.books[0], kind, own[0], marks_had(self.books[0], *view[0]))
            == bears(self.books[1], kind, own[1], marks_had(self.books[1], *view[1]))
            for kind, own, view, _ in self.followed
        )


def random_small_ground(rng):
    """Rows of a ground of at most 2 marks, 2 standings and 1 test, and its names."""
    marks = rng.sample(["a", "b", "z"], rng.randint(1, 2))
    standings = rng.sample(["s", "t"], rng.choice([0, 1, 1, 2]))
    tests = [rng.choice(SMALL_TESTS)] * rng.choice([0, 1, 1])
    rows = [f"mark {name}" + rng.choice(["", " by hand"]) for name in marks]
    rows += [f"standing {name}" + rng.choice(["", " by hand"]) for name in standings]
    return rows + [f"test {text}" for text in tests], marks, standings, tests


def random_rules(rng, ground, many):
    rows, marks, standings, tests = ground
    told = [random_rule(rng, marks, standings, tests) for _ in range(many)]
    return [rule_row(row[0], row[1]) for row in told if row]


def random_pair(rng):
    """Two books without rings over one small ground, which often have rules in common."""
    while True:
        ground = random_small_ground(rng)
        ones = random_rules(rng, ground, rng.randint(0, 3))
        others = list(ones)
        for _ in range(rng.randint(1, 2)):
            way = rng.choice(["out", "in", "turn", "new"])
            if way == "out" and others:
                others.pop(rng.randrange(len(others)))
            elif way == "in" and len(others) < 3:
                others.insert(rng.randint(0, len(others)), random_rules(rng, ground, 1)[0])
            elif way == "turn":
                rng.shuffle(others)
            elif way == "new":
                others = random_rules(rng, ground, rng.randint(0, 3))
        if rng.random() < 0.5:
            ones, others = others, ones
        books = [Book.read("\n".join(ground[0] + rows)) for rows in (ones, others)]
        if books[0].ring is None and books[1].ring is None:
            return books
