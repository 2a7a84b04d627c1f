"""Finding the letters of a house for which a query holds."""


class Finder:
    """Finds letters; the classes below it tell how the letters of a query without parts are found."""

    def __init__(self, house):
        self.house = house

    def found(self, query):
        """The numbers of the letters for which a query holds, ascending, a list."""
        return sorted(self._holding(query))

    def leaf_numbers(self, query):
        """The numbers of the letters for which a query without parts holds, a list in any order."""
        raise NotImplementedError("each finder has its own way")

    def _holding(self, query):
        # A dict with the numbers as keys, so that it is soon told which of them it has.
        lead = query.LEAD
        if lead == "and":
            return self._holding_all(query.queries)
        if lead == "or":
            return {number: True for part in query.queries for number in self._holding(part)}
        if lead == "not":
            held = self._holding(query.query)
            return {letter.number: True for letter in self.house if letter.number not in held}
        if lead == "thread":
            return self._around(self._holding(query.query))
        return {number: True for number in self.leaf_numbers(query)}

    def _holding_all(self, queries):
        held = self._holding(queries[0])
        for query in queries[1:]:
            more = self._holding(query)
            held = {number: True for number in held if number in more}
        return held

    def _around(self, numbers):
        # One letter of each thread is enough to find the others.
        letters = {self.house.thread_of(number): number for number in numbers}
        return {member: True for name in letters for member in self.house.members_of(letters[name])}
