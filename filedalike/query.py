"""Queries: what is asked of a letter in a house."""

from filedalike.errors import MailError

# Which queries stand in parentheses within which others, by their leads.
BRACED = {"and": ("and", "or"), "or": ("or",), "not": ("and", "or"), "thread": ("and", "or")}


class NestedThread(MailError):
    """A thread query stands within another one."""

    def __init__(self):
        super().__init__("a thread query stands within another one")


class Query:
    """What all queries share; callers create the classes below it."""

    LEAD = ""

    def __init__(self, has_thread):
        self.has_thread = has_thread

    def written(self):
        """The text of the query."""
        raise NotImplementedError("each kind of query has a text of its own")

    def __invert__(self):
        return Not(self)

    def __and__(self, other):
        parts = parts_of(self, Both.LEAD) + parts_of(other, Both.LEAD)
        return Both(*parts)

    def __or__(self, other):
        parts = parts_of(self, Either.LEAD) + parts_of(other, Either.LEAD)
        return Either(*parts)

    def __eq__(self, other):
        return isinstance(other, Query) and self.written() == other.written()


class Leaf(Query):
    """What the queries share that ask one thing alone."""

    def __init__(self, name):
        super().__init__(False)
        self.name = name

    def written(self):
        """The text of the query."""
        return f"{self.LEAD} {self.name}" if self.name else self.LEAD


class Every(Leaf):
    """Holds for each letter."""

    LEAD = "all"

    def __init__(self):
        super().__init__("")


class Says(Leaf):
    """Holds if the word is among the words of the letter."""

    LEAD = "word"


class Heads(Leaf):
    """Holds if the word is in the subject of the letter."""

    LEAD = "subject"


class From(Leaf):
    """Holds if this is the sender of the letter."""

    LEAD = "from"


class At(Leaf):
    """Holds if this is the house of the letter."""

    LEAD = "house"


class Bears(Leaf):
    """Holds if the letter bears the mark."""

    LEAD = "mark"


class Stands(Leaf):
    """Holds if the sender of the letter has the standing."""

    LEAD = "standing"


class Seen(Leaf):
    """Holds if the letter is seen."""

    LEAD = "seen"

    def __init__(self):
        super().__init__("")


class Among(Query):
    """Holds if the query holds for some letter of the thread that has come."""

    LEAD = "thread"

    def __init__(self, query):
        if query.has_thread:
            raise NestedThread()
        super().__init__(True)
        self.query = query

    def written(self):
        """The text of the query."""
        return f"{self.LEAD} {text_within(self.LEAD, self.query)}"


class Not(Query):
    """Holds if the query does not."""

    LEAD = "not"

    def __init__(self, query):
        super().__init__(query.has_thread)
        self.query = query

    def written(self):
        """The text of the query."""
        return f"{self.LEAD} {text_within(self.LEAD, self.query)}"


class Both(Query):
    """Holds if each of the queries holds."""

    LEAD = "and"

    def __init__(self, *queries):
        super().__init__(any([query.has_thread for query in queries]))
        self.queries = tuple(queries)

    def written(self):
        """The text of the query."""
        return " and ".join([text_within(self.LEAD, query) for query in self.queries])


class Either(Query):
    """Holds if one of the queries holds."""

    LEAD = "or"

    def __init__(self, *queries):
        super().__init__(any([query.has_thread for query in queries]))
        self.queries = tuple(queries)

    def written(self):
        """The text of the query."""
        return " or ".join([text_within(self.LEAD, query) for query in self.queries])


def text_within(lead, query):
    """The text of a query within one with this lead."""
    return f"({query.written()})" if query.LEAD in BRACED[lead] else query.written()


def parts_of(query, lead):
    """The queries of a query with this lead; every other query is its own only part. A list."""
    return list(query.queries) if query.LEAD == lead else [query]
