"""Reading queries: [106]."""

import random
import unittest

from filedalike.query import Among, Both, Either, From, Not, Says, Seen
from filedalike.queryread import BadQuery, read_query
from tests.querymodel import LEAVES, random_query, tokens_of, wrong_place

TOKENS = LEAVES + ("not", "thread", "(", ")", "and", "or", "at", "x", "ann", "X", "x1")


class Reading(unittest.TestCase):
    def test_written_texts(self):
        for text in (
            "all", "seen", "word offer", "subject offer", "from ann at oak", "house oak", "mark urgent", "standing vip",
            "thread word a", "not seen", "not thread not seen", "word a and mark b and seen",
            "word a or mark b or seen",
            "mark a and (seen or not word at)", "word a and mark b or seen and all", "(word a and mark b) and seen",
            "(word a or mark b) or seen", "thread (seen or all) and thread (seen and all)",
        ):
            self.assertEqual(read_query(text).written(), text)

    def test_parts(self):
        query = read_query("word a and seen and word b or word c or seen")
        self.assertIsInstance(query, Either)
        self.assertEqual([type(part) for part in query.queries], [Both, Says, Seen])
        self.assertEqual(len(query.queries[0].queries), 3)
        query = read_query("(word a or word b) or (word c or word d)")
        self.assertEqual([type(part) for part in query.queries], [Either, Either])
        query = read_query("(word a and word b) and word c")
        self.assertEqual([type(part) for part in query.queries], [Both, Says])

    def test_not_and_thread_take_the_query_right_behind(self):
        query = read_query("not seen and thread seen or all")
        self.assertEqual(query, Either(Both(Not(Seen()), Among(Seen())), read_query("all")))
        self.assertIsInstance(read_query("not (seen and all)"), Not)
        self.assertIsInstance(read_query("thread (seen or all)"), Among)

    def test_parentheses_around_any_query(self):
        for text in ("(seen)", "((seen))", "( ( seen ) )", "(((seen)))"):
            self.assertEqual(read_query(text).written(), "seen")
        self.assertEqual(read_query("not (not (seen))").written(), "not not seen")
        self.assertEqual(read_query("(word a) and ((mark b))").written(), "word a and mark b")
        self.assertEqual(read_query("(not word a and mark b)").written(), "not word a and mark b")

    def test_blanks(self):
        for text in ("  word   a  and(seen or all)", "word a and (  seen or all  )", " word a and ( seen or all)  "):
            self.assertEqual(read_query(text).written(), "word a and (seen or all)")
        self.assertEqual(read_query("not(seen)").written(), "not seen")

    def test_every_name_is_a_name(self):
        for word in ("and", "or", "not", "thread", "at", "word", "all", "from", "seen"):
            self.assertEqual(read_query(f"word {word}"), Says(word))
        self.assertEqual(read_query("from at at at and word and"), Both(From("at at at"), Says("and")))
        self.assertEqual(read_query("word and and word or or word not").written(), "word and and word or or word not")

    def check_wrong(self, text, place):
        with self.assertRaises(BadQuery) as caught:
            read_query(text)
        self.assertEqual(caught.exception.place, place, text)
        self.assertEqual(wrong_place(text), place)

    def test_wrong_texts(self):
        for text, place in (
            ("", 0), ("   ", 0), ("and", 0), (")", 0), ("offer", 0), ("word", 1), ("word (", 1), ("word A", 1),
            ("word abcdefghi", 1), ("word a word b", 2), ("word a and", 3), ("word a or or", 3), ("seen seen", 1),
            ("all x", 1), ("from ann", 2), ("from ann at", 3), ("from ann in oak", 2), ("from Ann at oak", 1),
            ("from ann at Oak", 3), ("from ann oak", 2), ("not", 1), ("not and", 1), ("thread", 1), ("(", 1), ("()", 1),
            ("(seen", 2), ("seen)", 1), ("((seen)", 4), ("(seen))", 3), ("(seen) seen", 3), ("seen not seen", 1),
            ("seen (seen)", 1), ("word\ta", 0), ("word a\n", 1), ("\nword a", 0), ("word a,", 1), ("not seen not", 2),
            ("WORD a", 0), ("word a and (mark b or)", 7), ("word a and and", 3), ("mark b) and", 2), ("word 5", 1),
        ):
            self.check_wrong(text, place)

    def test_threads_within_threads(self):
        for text, place in (
            ("thread thread seen", 1), ("thread not thread seen", 2), ("thread (seen and thread seen)", 4),
            ("thread (not (thread seen))", 4), ("thread seen and thread thread seen", 4), ("thread thread", 1),
        ):
            self.check_wrong(text, place)
        for text in (
            "thread seen and thread seen", "thread (seen) or thread not seen", "(thread seen) and not thread seen",
        ):
            self.assertIs(read_query(text).has_thread, True)

    def test_what_is_open_at_once(self):
        self.assertEqual(read_query("not " * 20 + "seen").written(), "not " * 20 + "seen")
        self.assertEqual(read_query("(" * 20 + "seen" + ")" * 20), Seen())
        self.assertEqual(read_query("not (" * 10 + "seen" + ")" * 10).written(), "not " * 10 + "seen")
        self.check_wrong("not " * 21 + "seen", 20)
        self.check_wrong("(" * 21 + "seen" + ")" * 21, 20)
        self.check_wrong("not " * 20 + "(seen)", 20)
        self.check_wrong("not " * 20 + "thread seen", 20)
        self.check_wrong("(" * 20 + "not seen" + ")" * 20, 20)
        self.check_wrong("thread " + "not (" * 9 + "not not seen" + ")" * 9, 20)
        # What has ended is open no more.
        text = " and ".join(["not not (not seen)"] * 20)
        self.assertEqual(len(read_query(text).queries), 20)
        text = "(" * 19 + "not seen and not seen" + ")" * 19 + " and not " + "(" * 19 + "seen" + ")" * 19
        self.assertEqual(read_query(text).written(), "(not seen and not seen) and not seen")
        self.check_wrong("(" * 19 + "not seen and not not seen" + ")" * 19, 23)

    def test_many_tokens(self):
        self.assertEqual(len(read_query(" or ".join(["seen"] * 100)).queries), 100)
        self.check_wrong(" or ".join(["seen"] * 101), 200)
        self.check_wrong(" or ".join(["seen"] * 100) + " or", 200)
        self.check_wrong(" or ".join(["seen"] * 100) + " or )", 200)
        self.check_wrong("x " * 200, 0)
        self.check_wrong("x " * 201, 200)
        self.check_wrong("seen" + ")" * 200, 200)
        self.check_wrong("not " + "seen or " * 99 + "(", 200)
        self.assertEqual(len(tokens_of("word a and " * 66 + "seen")), 199)
        self.assertEqual(len(read_query("word a and " * 66 + "not seen").queries), 67)

    def test_reading_what_was_written(self):
        rng = random.Random(151)
        many = 0
        for _ in range(500):
            query = random_query(rng, 6)
            if wrong_place(query.written()) is None:
                many += 1
                again = read_query(query.written())
                self.assertEqual(again, query)
                self.assertEqual(type(again), type(query))
        self.assertTrue(many > 400)

    def test_tokens_at_random(self):
        rng = random.Random(152)
        right = 0
        for _ in range(3000):
            tokens = tokens_of(random_query(rng, 4).written())
            for _ in range(rng.choice([0, 1, 1, 2])):
                at = rng.randint(0, len(tokens))
                tokens[at:at + rng.randint(0, 1)] = rng.sample(TOKENS, rng.randint(0, 2))
            text = "".join(token + rng.choice([" ", "  "]) for token in tokens)
            place = wrong_place(text)
            if place is None:
                right += 1
                self.assertEqual(read_query(read_query(text).written()), read_query(text))
            else:
                self.check_wrong(text, place)
        self.assertTrue(1000 < right < 2500, right)


if __name__ == "__main__":
    unittest.main()
