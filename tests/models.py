"""Slow and plain models of what the document says, and inputs made at random from fixed seeds."""

from itertools import combinations, product

from filedalike.letters import Letter

ALPHABET = "abcdefghijklmnopqrstuvwxyz"


def ordered_parts(items):
    """All parts of a list, shorter ones first."""
    return [part for many in range(len(items) + 1) for part in combinations(items, many)]


# Letters


def random_letter(rng, number, most_number, most_answers=3):
    """A letter whose answers are numbers up to a bound."""
    others = [each for each in range(1, most_number + 1) if each != number]
    answers = rng.sample(others, rng.randint(0, min(most_answers, len(others))))
    return Letter(number, rng.choice(["ann", "bob"]), rng.choice(["oak", "elm"]), answers=answers)


def random_letters(rng, most_number, many, most_answers=3):
    """Letters with unlike numbers, in random order."""
    numbers = rng.sample(range(1, most_number + 1), many)
    return [random_letter(rng, number, most_number, most_answers) for number in numbers]


# Threads


def links_of(letters):
    """All linked pairs, in both directions, and the known numbers."""
    known = {letter.number for letter in letters} | {each for letter in letters for each in letter.answers}
    links = {(letter.number, each) for letter in letters for each in letter.answers}
    return links | {(second, first) for first, second in links}, known


def threads_of(letters):
    """A dict from each known number to the frozenset of the numbers of its thread."""
    links, known = links_of(letters)
    found = {}
    for number in sorted(known):
        if number in found:
            continue
        thread = {number}
        while True:
            more = {second for first, second in links if first in thread} - thread
            if not more:
                break
            thread |= more
        for each in thread:
            found[each] = frozenset(thread)
    return found


def shortest_chain(letters, first, second):
    """The least of all shortest ways, by trying all ways step by step."""
    links, known = links_of(letters)
    if first not in known or threads_of(letters)[first] != threads_of(letters).get(second):
        return None
    ways = [(first,)]
    while True:
        arrived = [way for way in ways if way[-1] == second]
        if arrived:
            return min(arrived)
        ways = [way + (then,) for way in ways for here, then in links if here == way[-1] and then not in way]


# Forests


def parents_of(letters):
    """A dict from each known number to its parent or None, and a dict from ring roots to rings."""
    _, known = links_of(letters)
    first_links = {letter.number: letter.answers[0] for letter in letters if letter.answers}
    parents = {number: first_links.get(number) for number in known}
    rings = {}
    for number in known:
        way = [number]
        while way[-1] in first_links and first_links[way[-1]] not in way:
            way.append(first_links[way[-1]])
        if first_links.get(way[-1]) == number and number == max(way):
            rings[number] = tuple(way)
            parents[number] = None
    return parents, rings


# Kinds


def possible_kinds(tests):
    """The kinds of all letters that matter, each part of a letter tried apart from the others."""
    named = {test: [each.word for each in tests if each.LEAD == test] for test in ("word", "subject")}
    houses = [house for test in tests if test.LEAD == "house" for house in test.houses] + list(ALPHABET) + ["zzzzzzzz"]
    house_parts = {tuple(house in test.houses for test in tests if test.LEAD == "house") for house in houses}
    subject_parts = {
        tuple(test.word in part for test in tests if test.LEAD == "subject")
        for part in ordered_parts(sorted(set(named["subject"])))
    }
    word_parts = {
        tuple(
            test.word in part if test.LEAD == "word" else many >= test.least
            for test in tests if test.LEAD in ("word", "words")
        )
        for part in ordered_parts(sorted(set(named["word"])))
        for many in range(len(part), 41)
    }
    found = set()
    for house, subject, word in product(house_parts, subject_parts, word_parts):
        rows = {"house": list(house), "subject": list(subject), "word": list(word)}
        rows["words"] = rows["word"]
        found.add(tuple(rows[test.LEAD].pop(0) for test in tests))
    return sorted(found)


def least_bar(tests, kind):
    """The first of the smallest sets of indexes at which no possible kind is like this one."""
    possible = possible_kinds(tests)
    for indexes in ordered_parts(range(len(tests))):
        if not any(all(other[at] == kind[at] for at in indexes) for other in possible):
            return indexes
    return None


# Books


def random_wishes(rng, names, chance):
    """A list of True, False or None for each name."""
    return [rng.choice([True, False]) if rng.random() < chance else None for _ in names]


def wish_texts(lead, names, wishes):
    """The written wishes about these names."""
    return [("" if wish else "not ") + f"{lead} {name}" for name, wish in zip(names, wishes) if wish is not None]


TESTS = ["word x", "word y", "words 1", "words 3", "subject x", "house elm oak", "house oak", "house elm"]


def random_ground(rng):
    """Mark, standing and test rows, with the names and how many tests there are."""
    marks = rng.sample(["hot", "not", "if", "by", "a", "test"], rng.randint(0, 3))
    standings = rng.sample(["vip", "not", "a"], rng.randint(0, 2))
    tests = [rng.choice(TESTS) for _ in range(rng.randint(0, 2))]
    rows = [f"mark {name}" + rng.choice(["", " by hand"]) for name in marks]
    rows += [f"standing {name}" + rng.choice(["", " by hand"]) for name in standings]
    rows += [f"test {text}" for text in tests]
    return rows, marks, standings, tests


def random_rule(rng, marks, standings, tests, mode=None):
    """A rule row in written form, with its parts: mode, deed, gift, own, thread, sender; None if there is no gift."""
    mode = mode or rng.choice(["coming", "always"])
    gifts = [("mark", name) for name in marks]
    if mode == "coming":
        gifts += [("standing", name) for name in standings]
    if not gifts:
        return None
    deed, gift = rng.choice(gifts)
    own = random_wishes(rng, tests, 0.4)
    thread = random_wishes(rng, marks, 0.5)
    sender = random_wishes(rng, standings, 0.4 if mode == "coming" else 0)
    texts = wish_texts("test", range(1, len(tests) + 1), own)
    texts += wish_texts("thread", marks, thread) + wish_texts("sender", standings, sender)
    row = f"rule {mode} {deed} {gift}"
    return row, texts, (mode, deed, gift, tuple(own), tuple(thread), tuple(sender))


def rule_row(row, texts):
    """A rule row with these wishes."""
    return row + (" if " + ", ".join(texts) if texts else "")


def random_book_text(rng, mode=None):
    """The written text of a book."""
    rows, marks, standings, tests = random_ground(rng)
    for _ in range(rng.randint(0, 5)):
        told = random_rule(rng, marks, standings, tests, mode)
        if told:
            rows.append(rule_row(told[0], told[1]))
    return "\n".join(rows)


# Strata


def steps_of(book):
    """All tuples (number, mark given, mark wished, wish) by which marks depend on marks."""
    return [
        (rule.number, rule.gift, mark, wish)
        for rule in book.rules if rule.mode == "always"
        for mark, wish in zip(book.marks, rule.thread) if wish is not None
    ]


def least_ring(book):
    """The ring of the book, by trying all rows of at most three steps."""
    steps = steps_of(book)
    for many in range(1, 4):
        rings = []
        for row in product(steps, repeat=many):
            closed = all(row[at][2] == row[(at + 1) % many][1] for at in range(many))
            if closed and row[0][3] is False:
                rings.append(row)
        if rings:
            best = min(rings, key=lambda row: [(step[0], book.marks.index(step[2])) for step in row])
            return tuple(step[:3] for step in best)
    return None


def least_strata(book):
    """The strata of the book, by trying all small integers; None if there are none."""
    found = []
    for row in product(range(4), repeat=len(book.marks)):
        strata = dict(zip(book.marks, row))
        if all(strata[gift] >= strata[mark] + (not wish) for _, gift, mark, wish in steps_of(book)):
            found.append(row)
    return tuple(min(row[at] for row in found) for at in range(len(book.marks))) if found else None


# Always-rules


def marks_had(book, view_marks, view_rules):
    """The marks that a thread has: the only set that is founded on itself, among all sets of marks."""
    rules = [rule for rule in book.rules if rule.mode == "always" and rule.number in view_rules]
    found = []
    for part in ordered_parts(book.marks):
        had = [mark for mark in book.marks if mark in view_marks]
        while True:
            # What is not wished is looked up in the guessed set, what is wished in what is founded so far.
            more = [
                rule.gift for rule in rules if rule.gift not in had and all(
                    mark not in part if wish is False else mark in had
                    for mark, wish in zip(book.marks, rule.thread) if wish is not None
                )
            ]
            if not more:
                break
            had.append(more[0])
        if sorted(had) == sorted(part):
            found.append(part)
    assert len(found) == 1
    return found[0]
