"""Queries made at random, and slow models of what they hold for and of which texts can be read."""

from filedalike.names import is_name
from filedalike.query import Among, At, Bears, Both, Either, Every, From, Heads, Not, Says, Seen, Stands

LEAVES = ("all", "seen", "word", "subject", "from", "house", "mark", "standing")


def random_leaf(rng):
    word = rng.choice(["x", "y", "w", "not", "and"])
    person, home = rng.choice(["ann", "bob", "at"]), rng.choice(["oak", "elm", "ash", "at"])
    return rng.choice([
        Every(), Seen(), Says(word), Heads(word), From(f"{person} at {home}"), At(home),
        Bears(rng.choice(["a", "b", "c", "hot"])), Stands(rng.choice(["s", "u", "vip"])),
    ])


def random_query(rng, depth, threads=True):
    """A query of at most this depth."""
    word = rng.choice(["leaf", "not", "thread", "and", "or"])
    if depth <= 1 or word == "leaf" or word == "thread" and not threads:
        return random_leaf(rng)
    if word == "not":
        return Not(random_query(rng, depth - 1, threads))
    if word == "thread":
        return Among(random_query(rng, depth - 1, False))
    parts = [random_query(rng, depth - 1, threads) for _ in range(rng.choice([2, 2, 3]))]
    return Both(*parts) if word == "and" else Either(*parts)


def slow_holds(house, query, number):
    """Whether a query holds, by the words of the document."""
    letter = house[number]
    if isinstance(query, Not):
        return not slow_holds(house, query.query, number)
    if isinstance(query, Both):
        return False not in [slow_holds(house, part, number) for part in query.queries]
    if isinstance(query, Either):
        return True in [slow_holds(house, part, number) for part in query.queries]
    if isinstance(query, Among):
        thread = [each.number for each in house if house.thread_of(each.number) == house.thread_of(number)]
        return True in [slow_holds(house, query.query, each) for each in thread]
    lead, name = query.written().partition(" ")[::2]
    return {
        "all": True, "word": name in letter.words, "subject": name in letter.subject, "from": name == letter.sender,
        "house": name == letter.house, "mark": name in house.marks_of(number),
        "standing": name in house.standings_of(letter.sender), "seen": house.seen_of(number),
    }[lead]


def slow_search(house, query):
    return [number for number in sorted(letter.number for letter in house) if slow_holds(house, query, number)]


def size_of(query):
    """How many queries a query consists of."""
    if isinstance(query, (Not, Among)):
        return 1 + size_of(query.query)
    return 1 + sum(size_of(part) for part in getattr(query, "queries", ()))


def tokens_of(text):
    tokens = [""]
    for sign in text:
        if sign in "() ":
            tokens += [sign, ""]
        else:
            tokens[-1] += sign
    return [token for token in tokens if token not in ("", " ")]


def wrong_place(text):
    """Where a text is wrong, or None, by a machine with a stack of what is open."""
    tokens = tokens_of(text)
    if len(tokens) > 200:
        return 200
    opened, wanted = [], ["query"]
    for place, token in enumerate(tokens):
        want = wanted.pop(0)
        if want == "query":
            if token in ("not", "thread", "("):
                if len(opened) == 20 or token == "thread" and "thread" in opened:
                    return place
                opened.append(token)
                wanted = ["query"]
                continue
            if token not in LEAVES:
                return place
            wanted = {"all": [], "seen": [], "from": ["name", "at", "name"]}.get(token, ["name"])
        elif want == "name":
            if not is_name(token):
                return place
        elif want == "at":
            if token != "at":
                return place
        elif token == ")" and "(" in opened:
            opened.pop()
        elif token in ("and", "or"):
            wanted = ["query"]
            continue
        else:
            return place
        if not wanted:
            # A query has ended, and with it what stands right before it.
            while opened and opened[-1] != "(":
                opened.pop()
            wanted = ["more"]
    return None if wanted == ["more"] and not opened else len(tokens)
