"""Search in a house, and papers that say why queries hold or not."""

from filedalike.finding import Finder


class HouseFinder(Finder):
    """Finds letters from the house alone."""

    def leaf_numbers(self, query):
        """The numbers of the letters for which a query without parts holds, a list."""
        return [letter.number for letter in self.house if leaf_holds(self.house, query, letter.number)]


def search(house, query):
    """The numbers of the letters for which a query holds, ascending, a list."""
    return HouseFinder(house).found(query)


def holds(house, query, number):
    """Whether a query holds for a letter. Raises NoLetter."""
    lead = query.LEAD
    if lead == "and":
        return all([holds(house, part, number) for part in query.queries])
    if lead == "or":
        return any([holds(house, part, number) for part in query.queries])
    if lead == "not":
        return not holds(house, query.query, number)
    if lead == "thread":
        return any([holds(house, query.query, member) for member in house.members_of(number)])
    return leaf_holds(house, query, number)


def leaf_holds(house, query, number):
    """Whether a query without parts holds for a letter. Raises NoLetter."""
    letter = house[number]
    lead = query.LEAD
    if lead == "word":
        return query.name in letter.words
    if lead == "subject":
        return query.name in letter.subject
    if lead == "from":
        return query.name == letter.sender
    if lead == "house":
        return query.name == letter.house
    if lead == "mark":
        return query.name in house.marks_of(number)
    if lead == "standing":
        return query.name in house.standings_of(letter.sender)
    if lead == "seen":
        return house.seen_of(number)
    return True


def paper(house, query, number):
    """Why a query holds for a letter or not: a tuple (holds, lead, detail). Raises NoLetter."""
    lead = query.LEAD
    if lead == "and":
        return paper_of_parts(house, query, number, False)
    if lead == "or":
        return paper_of_parts(house, query, number, True)
    if lead == "not":
        inner = paper(house, query.query, number)
        return not inner[0], lead, inner
    if lead == "thread":
        return paper_of_thread(house, query, number)
    return leaf_holds(house, query, number), lead, leaf_detail(house, query, number)


def paper_of_parts(house, query, number, deciding):
    """The paper of a query that the first part decides whose holding is the deciding one."""
    papers = tuple([paper(house, part, number) for part in query.queries])
    for at, told in enumerate(papers):
        if told[0] == deciding:
            return deciding, query.LEAD, (at, told)
    return not deciding, query.LEAD, papers


def paper_of_thread(house, query, number):
    """The paper of a thread query."""
    papers = tuple([(member, paper(house, query.query, member)) for member in house.members_of(number)])
    for member, told in papers:
        if told[0]:
            return True, query.LEAD, (member, told)
    return False, query.LEAD, papers


def leaf_detail(house, query, number):
    """The detail of the paper of a query without parts."""
    lead = query.LEAD
    if lead == "word":
        return first_index(house[number].words, query.name)
    if lead == "subject":
        return first_index(house[number].subject, query.name)
    if lead == "mark":
        return mark_detail(house, query.name, number)
    return None


def first_index(names, name):
    """The least index of a name in a tuple, or None."""
    return names.index(name) if name in names else None


def mark_detail(house, mark, number):
    """Whence a letter has a mark: stamp, hand or always; None if it does not bear it."""
    if mark in house.stamp_of(number).marks:
        return "stamp"
    if mark in house.hands_of(number):
        return "hand"
    return "always" if mark in house.marks_of(number) else None
