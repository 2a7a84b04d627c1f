"""Trees of letters that hang below their first answers."""

from filedalike.groups import Groups
from filedalike.letters import has_come


class Forest:
    """The trees of the letters that have come."""

    def __init__(self):
        self._letters = {}
        self._parents = {}
        self._children = {}
        self._rings = {}
        self._trees = Groups()

    @classmethod
    def of(cls, letters):
        """The forest of the letters of a list."""
        forest = cls()
        for letter in letters:
            forest.put(letter)
        return forest

    def put(self, letter):
        """Add a letter; whether it is new. Raises Clash."""
        if has_come(self._letters, letter):
            return False
        self._letters[letter.number] = letter
        for number in (letter.number,) + letter.answers:
            if number not in self._parents:
                self._parents[number] = None
                self._children[number] = []
        if letter.answers:
            self._hang(letter.number, letter.answers[0])
        return True

    def _hang(self, number, target):
        # Until now the number was a root, so its link closes a ring exactly if it leads into its own tree.
        ring = self.path(target) if self._trees.are_bound(number, target) else ()
        self._trees.bind((number, target))
        self._parents[number] = target
        self._children[target].append(number)
        if ring:
            self._cut(ring)

    def _cut(self, ring):
        greatest = max(ring)
        self._children[self._parents[greatest]].remove(greatest)
        self._parents[greatest] = None
        at = ring.index(greatest)
        self._rings[greatest] = ring[at:] + ring[:at]

    def parent(self, number):
        """The parent of a number, or None."""
        return self._parents.get(number)

    def path(self, number):
        """The numbers from a number to its root, empty if it is unknown."""
        way = []
        at = number if number in self._parents else None
        while at is not None:
            way.append(at)
            at = self._parents[at]
        return tuple(way)

    def root(self, number):
        """The root of the tree of a number, or None if it is unknown."""
        way = self.path(number)
        return way[-1] if way else None

    def depth(self, number):
        """The number of steps to the root, or None if the number is unknown."""
        way = self.path(number)
        return len(way) - 1 if way else None

    def children(self, number):
        """The numbers whose parent a number is."""
        return tuple(sorted(self._children.get(number, [])))

    def ring_at(self, number):
        """The ring of the tree of a number, from its root on, or None."""
        return self._rings.get(self.root(number))

    def roots(self):
        """All known numbers without a parent."""
        return tuple(sorted([number for number in self._parents if self._parents[number] is None]))

    def summary(self):
        """A list of tuples (number, parent or None), one for each known number."""
        return [(number, self._parents[number]) for number in sorted(self._parents)]

    def walk_trees(self):
        """Tuples (depth, number), tree by tree, each number ahead of all that is below it."""
        for root in self.roots():
            waiting = [(0, root)]
            while waiting:
                depth, number = waiting.pop()
                yield depth, number
                for child in sorted(self._children[number], reverse=True):
                    waiting.append((depth + 1, child))

    def drawn(self):
        """A list of one string for each number, in the order of walk_trees."""
        return [f"{depth:>3} {number} {self._sender(number)}" for depth, number in self.walk_trees()]

    def _sender(self, number):
        letter = self._letters.get(number)
        return "-" if letter is None else letter.sender

    def __contains__(self, number):
        return number in self._parents

    def __len__(self):
        return len(self._parents)

    def __eq__(self, other):
        return isinstance(other, Forest) and self._parents == other._parents
