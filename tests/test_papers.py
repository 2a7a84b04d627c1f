"""What queries hold for, search and papers: [102], [107], [108]."""

import random
import unittest

from filedalike.book import Book
from filedalike.house import House
from filedalike.kept import NoLetter
from filedalike.letters import Letter
from filedalike.papers import holds, paper, search
from filedalike.query import Among, At, Bears, Both, Either, Every, From, Heads, Not, Says, Seen, Stands
from tests.housemodel import random_events
from tests.models import random_book_text
from tests.querymodel import random_query, slow_holds, slow_search

TEXT = "\n".join([
    "mark hot by hand", "mark new", "mark old", "standing vip", "test word x", "rule coming mark new if test 1",
    "rule coming standing vip if test 1", "rule always mark old if thread hot",
])


def filled():
    """Letters 3 and 5 in one thread, and 8 alone; 3 says x, a hand marks 5."""
    house = House(Book.read(TEXT))
    house.come(Letter(3, "ann", "oak", subject=("sale", "x", "sale"), words=("y", "x", "y", "x")))
    house.come(Letter(5, "bob", "elm", answers=(3,), subject=("x",)))
    house.come(Letter(8, "ann", "oak", words=("y",)))
    house.put(5, "hot")
    house.see(8, True, count=1, device="d")
    return house


class Holding(unittest.TestCase):
    def check(self, query, *numbers):
        house = filled()
        self.assertEqual(search(house, query), list(numbers))
        for number in (3, 5, 8):
            self.assertIs(holds(house, query, number), number in numbers)
            self.assertIs(paper(house, query, number)[0], number in numbers)

    def test_leaves(self):
        self.check(Every(), 3, 5, 8)
        self.check(Says("x"), 3)
        self.check(Says("y"), 3, 8)
        self.check(Says("sale"))
        self.check(Heads("sale"), 3)
        self.check(Heads("x"), 3, 5)
        self.check(From("ann at oak"), 3, 8)
        self.check(From("ann at elm"))
        self.check(At("elm"), 5)
        self.check(At("ann"))
        self.check(Seen(), 8)

    def test_marks_and_standings(self):
        self.check(Bears("new"), 3)
        self.check(Bears("hot"), 5)
        self.check(Bears("old"), 3, 5)
        # The standing is one of the sender, whichever letter brought it.
        self.check(Stands("vip"), 3, 8)

    def test_names_that_the_book_lacks(self):
        self.check(Bears("vip"))
        self.check(Bears("none"))
        self.check(Stands("new"))
        self.check(Stands("none"))
        self.check(Says("none"))

    def test_threads(self):
        self.check(Among(Says("x")), 3, 5)
        self.check(Among(Seen()), 8)
        self.check(Among(Not(Bears("new"))), 3, 5, 8)
        self.check(Among(Both(Bears("new"), Bears("hot"))))
        self.check(Both(Among(Bears("new")), Among(Bears("hot"))), 3, 5)
        self.check(Not(Among(Every())))

    def test_signs(self):
        self.check(Not(Says("x")), 5, 8)
        self.check(Both(Says("y"), Seen(), Every()), 8)
        self.check(Either(Says("x"), Seen(), Says("none")), 3, 8)
        self.check(Both(Says("x"), Seen()))

    def test_letters_that_have_not_come(self):
        house = filled()
        house.put(9, "hot")
        house.come(Letter(20, "cob", "elm", answers=(21,)))
        queries = (
            Every(), Says("x"), Bears("hot"), Seen(), Not(Every()), Both(Every(), Seen()), Either(Every(), Seen()),
            Among(Every()), Not(Among(Bears("hot"))), Stands("vip"), From("ann at oak"),
        )
        for query in queries:
            for number in (9, 21, 10 ** 30):
                for function in (holds, paper):
                    with self.assertRaises(NoLetter) as caught:
                        function(house, query, number)
                    self.assertEqual(caught.exception.number, number)

    def test_empty_houses(self):
        house = House(Book.read(""))
        for query in (Every(), Not(Every()), Among(Every()), Both(Every(), Seen()), Bears("hot")):
            self.assertEqual(search(house, query), [])

    def test_lists_are_new(self):
        house = filled()
        search(house, Every()).clear()
        self.assertEqual(search(house, Every()), [3, 5, 8])

    def test_behind_an_edit_and_on_trial(self):
        house = filled()
        other = Book.read("\n".join(TEXT.split("\n")[:-1]))
        self.assertEqual(house.tried(other, lambda asked: search(asked, Bears("old"))), [])
        self.assertEqual(search(house, Bears("old")), [3, 5])
        house.edit(other)
        self.assertEqual(search(house, Bears("old")), [])
        self.assertEqual(search(house, Bears("new")), [3])

    def test_at_random(self):
        rng = random.Random(161)
        some = 0
        for _ in range(120):
            book = Book.read(random_book_text(rng))
            if book.ring is not None:
                continue
            house = House(book)
            house.play(random_events(rng, book, 20))
            for _ in range(8):
                query = random_query(rng, 4)
                told = slow_search(house, query)
                some += 0 < len(told) < len(house)
                self.assertEqual(search(house, query), told)
                for letter in house:
                    self.assertIs(holds(house, query, letter.number), letter.number in told)
                    self.assertIs(paper(house, query, letter.number)[0], letter.number in told)
        self.assertTrue(some > 100)


class Papers(unittest.TestCase):
    def check(self, query, number, *told):
        self.assertEqual(paper(filled(), query, number), told)

    def test_words(self):
        self.check(Says("x"), 3, True, "word", 1)
        self.check(Says("y"), 3, True, "word", 0)
        self.check(Says("z"), 3, False, "word", None)
        self.check(Heads("x"), 3, True, "subject", 1)
        self.check(Heads("sale"), 3, True, "subject", 0)
        self.check(Heads("y"), 3, False, "subject", None)

    def test_marks(self):
        self.check(Bears("new"), 3, True, "mark", "stamp")
        self.check(Bears("hot"), 5, True, "mark", "hand")
        self.check(Bears("old"), 5, True, "mark", "always")
        self.check(Bears("hot"), 3, False, "mark", None)
        self.check(Bears("none"), 3, False, "mark", None)

    def test_marks_of_several_ways(self):
        house = House(Book.read(
            "mark a by hand\nmark b by hand\nrule coming mark a\nrule always mark a\nrule always mark b"
        ))
        house.come(Letter(3, "ann", "oak"))
        self.assertEqual(paper(house, Bears("b"), 3), (True, "mark", "always"))
        house.put(3, "a")
        house.put(3, "b")
        # The stamp comes first, then hands, then rules.
        self.assertEqual(paper(house, Bears("a"), 3), (True, "mark", "stamp"))
        self.assertEqual(paper(house, Bears("b"), 3), (True, "mark", "hand"))

    def test_leaves_without_a_detail(self):
        self.check(Every(), 3, True, "all", None)
        self.check(From("ann at oak"), 3, True, "from", None)
        self.check(From("ann at oak"), 5, False, "from", None)
        self.check(At("oak"), 3, True, "house", None)
        self.check(At("oak"), 5, False, "house", None)
        self.check(Stands("vip"), 8, True, "standing", None)
        self.check(Stands("vip"), 5, False, "standing", None)
        self.check(Seen(), 8, True, "seen", None)
        self.check(Seen(), 3, False, "seen", None)

    def test_not(self):
        self.check(Not(Says("x")), 3, False, "not", (True, "word", 1))
        self.check(Not(Not(Seen())), 3, False, "not", (True, "not", (False, "seen", None)))

    def test_and(self):
        says, seen = (True, "word", 1), (False, "seen", None)
        self.check(Both(Says("x"), Every()), 3, True, "and", (says, (True, "all", None)))
        self.check(Both(Says("x"), Seen(), Heads("none")), 3, False, "and", (1, seen))
        self.check(Both(Seen(), Says("x")), 3, False, "and", (0, seen))

    def test_or(self):
        says, seen = (True, "word", 1), (False, "seen", None)
        self.check(Either(Says("x"), Every()), 3, True, "or", (0, says))
        self.check(Either(Seen(), Heads("none"), Says("x")), 3, True, "or", (2, says))
        self.check(Either(Seen(), Heads("none")), 3, False, "or", (seen, (False, "subject", None)))

    def test_threads(self):
        self.check(Among(Heads("x")), 5, True, "thread", (3, (True, "subject", 1)))
        self.check(Among(Bears("hot")), 3, True, "thread", (5, (True, "mark", "hand")))
        self.check(
            Among(Seen()), 3, False, "thread", ((3, (False, "seen", None)), (5, (False, "seen", None))),
        )
        self.check(Among(Not(Every())), 8, False, "thread", ((8, (False, "not", (True, "all", None))),))

    def test_parts_within_parts(self):
        self.check(
            Either(Both(Seen(), Every()), Not(Among(Says("x")))), 8, True, "or",
            (0, (True, "and", ((True, "seen", None), (True, "all", None)))),
        )
        self.check(
            Both(Either(Seen(), Says("none")), Every()), 5, False, "and",
            (0, (False, "or", ((False, "seen", None), (False, "word", None)))),
        )

    def slow_paper(self, house, query, number):
        if query.LEAD == "not":
            detail = self.slow_paper(house, query.query, number)
        elif query.LEAD in ("and", "or"):
            parts = [self.slow_paper(house, part, number) for part in query.queries]
            stops = [at for at, part in enumerate(parts) if part[0] is (query.LEAD == "or")]
            detail = (stops[0], parts[stops[0]]) if stops else tuple(parts)
        elif query.LEAD == "thread":
            parts = [(each, self.slow_paper(house, query.query, each)) for each in house.members_of(number)]
            detail = next((part for part in parts if part[1][0]), tuple(parts))
        elif query.LEAD in ("word", "subject"):
            names = house[number].words if query.LEAD == "word" else house[number].subject
            detail = next((at for at, name in enumerate(names) if name == query.name), None)
        elif query.LEAD == "mark" and query.name in house.marks_of(number):
            ways = (("stamp", house.stamp_of(number).marks), ("hand", house.hands_of(number)), ("always", [query.name]))
            detail = next(way for way, marks in ways if query.name in marks)
        else:
            detail = None
        return slow_holds(house, query, number), query.LEAD, detail

    def test_at_random(self):
        rng = random.Random(162)
        for _ in range(60):
            book = Book.read(random_book_text(rng))
            if book.ring is not None:
                continue
            house = House(book)
            house.play(random_events(rng, book, 15))
            for _ in range(5):
                query = random_query(rng, 5)
                for letter in house:
                    told = self.slow_paper(house, query, letter.number)
                    self.assertEqual(paper(house, query, letter.number), told)


if __name__ == "__main__":
    unittest.main()
