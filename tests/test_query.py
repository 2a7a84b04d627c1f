"""Queries as objects and their texts: [102] to [105]."""

import random
import unittest

from filedalike.errors import MailError
from filedalike.query import (
    Among, At, Bears, Both, Either, Every, From, Heads, NestedThread, Not, Query, Says, Seen, Stands
)
from tests.querymodel import random_query

A, B, C = Says("a"), Bears("b"), Seen()
LEAVES = (
    (Every(), "all", ""), (Says("offer"), "word", "offer"), (Heads("offer"), "subject", "offer"),
    (From("ann at oak"), "from", "ann at oak"), (At("oak"), "house", "oak"), (Bears("urgent"), "mark", "urgent"),
    (Stands("vip"), "standing", "vip"), (Seen(), "seen", ""), (Says("and"), "word", "and"),
)


def needs_brackets(lead, inner):
    if inner == "or":
        return lead in ("and", "or", "thread", "not")
    return inner == "and" and lead in ("and", "thread", "not")


def slow_text(query):
    if query.LEAD in ("not", "thread"):
        parts, glue = [query.query], ""
    elif query.LEAD in ("and", "or"):
        parts, glue = query.queries, f" {query.LEAD} "
    else:
        return query.LEAD + (" " + query.name if query.name else "")
    texts = [f"({slow_text(part)})" if needs_brackets(query.LEAD, part.LEAD) else slow_text(part) for part in parts]
    return glue.join(texts) if glue else f"{query.LEAD} {texts[0]}"


class Objects(unittest.TestCase):
    def test_leaves(self):
        for query, lead, name in LEAVES:
            self.assertIsInstance(query, Query)
            self.assertEqual((query.LEAD, query.name), (lead, name))
            self.assertEqual(query.written(), f"{lead} {name}" if name else lead)
            self.assertIs(query.has_thread, False)

    def test_leads_are_class_values(self):
        found = [made.LEAD for made in (Every, Says, Heads, From, At, Bears, Stands, Seen, Among, Not, Both, Either)]
        self.assertEqual(found, [
            "all", "word", "subject", "from", "house", "mark", "standing", "seen", "thread", "not", "and", "or",
        ])

    def test_parts(self):
        self.assertIs(Not(A).query, A)
        self.assertIs(Among(A).query, A)
        for made in (Both, Either):
            query = made(A, B, C)
            self.assertIsInstance(query.queries, tuple)
            self.assertEqual(query.queries, (A, B, C))
        for query in (Not(A), Among(A), Both(A, B), Either(A, B)):
            self.assertIsInstance(query, Query)

    def test_whether_there_is_a_thread(self):
        self.assertIs(Among(A).has_thread, True)
        for query in (Not(Among(A)), Both(A, Among(B)), Either(Among(B), A), Not(Both(A, Either(B, Not(Among(C)))))):
            self.assertIs(query.has_thread, True)
        for query in (Not(A), Both(A, B), Either(A, B), Not(Both(A, Either(B, C)))):
            self.assertIs(query.has_thread, False)

    def test_no_thread_within_another_one(self):
        inner = Among(A)
        for query in (inner, Not(inner), Both(B, inner), Either(inner, B), Not(Either(A, Both(B, Not(inner))))):
            with self.assertRaises(NestedThread):
                Among(query)
        self.assertEqual(NestedThread.__bases__, (MailError,))
        self.assertIsInstance(str(NestedThread()), str)
        self.assertEqual(Both(Among(A), Not(Among(B))).written(), "thread word a and not thread mark b")


class Signs(unittest.TestCase):
    def test_not(self):
        self.assertIsInstance(~A, Not)
        self.assertEqual((~A).query, A)
        self.assertEqual((~~A).written(), "not not word a")

    def test_and(self):
        self.assertIsInstance(A & B, Both)
        self.assertEqual((A & B).queries, (A, B))
        self.assertEqual((A & B & C).queries, (A, B, C))
        self.assertEqual((A & (B & C)).queries, (A, B, C))
        self.assertEqual(((A & B) & (C & A)).queries, (A, B, C, A))
        self.assertEqual((A & (B | C)).queries, (A, B | C))
        self.assertEqual(((A | B) & C).queries, (A | B, C))
        self.assertEqual((Both(Both(A, B), C) & A).queries, (Both(A, B), C, A))

    def test_or(self):
        self.assertIsInstance(A | B, Either)
        self.assertEqual((A | B | C).queries, (A, B, C))
        self.assertEqual((A | (B | C)).queries, (A, B, C))
        self.assertEqual(((A & B) | C).queries, (A & B, C))
        self.assertEqual((~(A | B) | C).queries, (~(A | B), C))

    def test_queries_stay_as_they_are(self):
        one, other = A & B, B | C
        before = one.written(), other.written()
        for made in (one & other, one | other, ~one, other & one, one & one, other | other):
            self.assertIsInstance(made, Query)
        self.assertEqual((one.written(), other.written()), before)

    def test_equal_queries(self):
        self.assertTrue(Says("a") == Says("a"))
        self.assertTrue(Both(A, B) == A & B)
        for other in (Says("b"), Heads("a"), Bears("a"), ~A, A & A, None, "word a", 5):
            self.assertFalse(A == other)
            self.assertTrue(A != other)
        self.assertFalse(Both(Both(A, B), C) == Both(A, B, C))
        self.assertFalse(A & B == B & A)


class Texts(unittest.TestCase):
    def test_the_example(self):
        self.assertEqual((Bears("a") & (Seen() | ~Says("at"))).written(), "mark a and (seen or not word at)")

    def test_parentheses(self):
        for query, text in (
            (Both(Either(A, B), C), "(word a or mark b) and seen"),
            (Both(Both(A, B), C), "(word a and mark b) and seen"),
            (Either(Either(A, B), C), "(word a or mark b) or seen"),
            (Either(Both(A, B), C), "word a and mark b or seen"),
            (Not(Either(A, B)), "not (word a or mark b)"), (Not(Both(A, B)), "not (word a and mark b)"),
            (Among(Either(A, B)), "thread (word a or mark b)"), (Among(Both(A, B)), "thread (word a and mark b)"),
            (Not(Not(A)), "not not word a"), (Not(Among(A)), "not thread word a"), (Among(Not(A)), "thread not word a"),
            (Both(Not(A), Among(B), Every()), "not word a and thread mark b and all"),
            (Either(Not(A), Among(B), From("at at at")), "not word a or thread mark b or from at at at"),
            (Not(Either(A, Both(B, Not(Both(A, B))))), "not (word a or mark b and not (word a and mark b))"),
        ):
            self.assertEqual(query.written(), text)

    def test_at_random(self):
        rng = random.Random(141)
        for _ in range(300):
            query = random_query(rng, 5)
            self.assertEqual(query.written(), slow_text(query))

    def test_large_queries(self):
        query = A
        for _ in range(49):
            query = Not(query)
        self.assertEqual(query.written(), "not " * 49 + "word a")
        many = [A] * 199
        self.assertEqual(Either(*many).written(), " or ".join(["word a"] * 199))


if __name__ == "__main__":
    unittest.main()
