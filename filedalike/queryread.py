"""Reading the texts of queries."""

from filedalike.errors import MailError
from filedalike.names import is_name
from filedalike.query import Among, At, Bears, Both, Either, Every, From, Heads, Not, Says, Seen, Stands

MOST_TOKENS = 200
MOST_OPENED = 20


class BadQuery(MailError):
    """A text is not that of a query; the place is the index of the first token that is wrong."""

    def __init__(self, place):
        super().__init__("this is not the text of a query")
        self.place = place


def read_query(text):
    """The query of a text. Raises BadQuery."""
    tokens = [token for token in text.replace("(", " ( ").replace(")", " ) ").split(" ") if token]
    if len(tokens) > MOST_TOKENS:
        raise BadQuery(MOST_TOKENS)
    reader = QueryReader(tokens)
    query = reader.read_either()
    reader.check_end()
    return query


class QueryReader:
    """Reads the queries of a list of tokens from the left to the right."""

    def __init__(self, tokens):
        self._tokens = tokens
        self._at = 0
        self._many_opened = 0
        self._in_thread = False

    def check_end(self):
        """Raise BadQuery if a token is left."""
        if self._at < len(self._tokens):
            raise BadQuery(self._at)

    def read_either(self):
        """Read queries that are joined by or. Raises BadQuery."""
        queries = [self._read_both()]
        while self._token() == "or":
            self._at += 1
            queries.append(self._read_both())
        return queries[0] if len(queries) == 1 else Either(*queries)

    def _read_both(self):
        queries = [self._read_one()]
        while self._token() == "and":
            self._at += 1
            queries.append(self._read_one())
        return queries[0] if len(queries) == 1 else Both(*queries)

    def _read_one(self):
        lead = self._token()
        if lead in ("not", "thread", "("):
            return self._read_opened(lead)
        self._take(lead in ("all", "seen", "word", "subject", "from", "house", "mark", "standing"))
        if lead == "all":
            return Every()
        if lead == "seen":
            return Seen()
        name = self._read_name()
        if lead == "word":
            return Says(name)
        if lead == "subject":
            return Heads(name)
        if lead == "house":
            return At(name)
        if lead == "mark":
            return Bears(name)
        if lead == "standing":
            return Stands(name)
        self._take(self._token() == "at")
        house = self._read_name()
        return From(f"{name} at {house}")

    def _read_opened(self, lead):
        self._take(self._many_opened < MOST_OPENED and not (lead == "thread" and self._in_thread))
        self._many_opened += 1
        if lead == "(":
            query = self.read_either()
            self._take(self._token() == ")")
        elif lead == "not":
            query = Not(self._read_one())
        else:
            self._in_thread = True
            query = Among(self._read_one())
            self._in_thread = False
        self._many_opened -= 1
        return query

    def _read_name(self):
        name = self._token()
        self._take(is_name(name))
        return name

    def _token(self):
        # Behind the last token stands None, which is nothing that a text can have.
        return self._tokens[self._at] if self._at < len(self._tokens) else None

    def _take(self, can_stand):
        if not can_stand:
            raise BadQuery(self._at)
        self._at += 1
