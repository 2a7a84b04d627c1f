"""Finding the letters of a house for which a query holds."""


class Finder:
    """Finds letters; the classes below it tell what holds for which of them."""

    def __init__(self, house):
        self.house = house
        self.all_numbers = sorted([letter.number for letter in house])

    def found(self, query):
        """The numbers of the letters for which a query holds, ascending, a list."""
        held = self._holding(query)
        return [number for number in self.all_numbers if number in held]

    def leaf_numbers(self, query):
        """The numbers of the letters for which a query without parts holds, a list in any order."""
        raise NotImplementedError("each finder has its own way")

    def _holding(self, query):
        # A dict with the numbers as keys, so that it is soon told which of them it has.
        lead = query.LEAD
        if lead == "and":
            return self._holding_all(query.queries)
        if lead == "or":
            return {number: True for part in query.queries for number in self._holding(part)}
        if lead == "not":
            held = self._holding(query.query)
            return {number: True for number in self.all_numbers if number not in held}
        if lead == "thread":
            names = {self.house.thread_of(number): True for number in self._holding(query.query)}
            return {number: True for number in self.all_numbers if self.house.thread_of(number) in names}
        return {number: True for number in self.leaf_numbers(query)}

    def _holding_all(self, queries):
        held = self._holding(queries[0])
        for query in queries[1:]:
            more = self._holding(query)
            held = {number: True for number in held if number in more}
        return held
