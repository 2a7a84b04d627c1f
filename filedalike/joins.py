"""What a letter changes in the threads, and the ways within them."""

from filedalike.threads import Threads


class Join:
    """What one letter changes in the threads; the functions below make it."""

    def __init__(self, number, is_new, met, gained):
        self.number = number
        self.is_new = is_new
        self.met = met
        self.now = min(met + gained)
        self.gone = tuple([name for name in met if name != self.now])
        self.gained = gained

    def __eq__(self, other):
        return (
            isinstance(other, Join)
            and self.number == other.number
            and self.is_new == other.is_new
            and self.met == other.met
            and self.now == other.now
            and self.gone == other.gone
            and self.gained == other.gained
        )


def join_of(threads, letter):
    """The join of a letter that may come. Raises Clash."""
    met = threads.joined(letter)
    named = (letter.number,) + letter.answers
    gained = tuple(sorted([number for number in named if threads.name_of(number) is None]))
    return Join(letter.number, letter.number not in threads, met, gained)


def each_join(letters):
    """The join of each letter of a list, in order. Raises Clash at the first letter that clashes."""
    threads = Threads()
    for letter in letters:
        yield join_of(threads, letter)
        threads.put(letter)


def together_since(letters, first, second):
    """The index of the letter that first brings two numbers into one thread, or None. Raises Clash."""
    threads = Threads()
    since = None
    # Also the letters behind that index are put: they may clash.
    for at, letter in enumerate(letters):
        threads.put(letter)
        if since is None and are_together(threads, first, second):
            since = at
    return since


def are_together(threads, first, second):
    """Whether two numbers are known and in one thread."""
    name = threads.name_of(first)
    return name is not None and name == threads.name_of(second)


def chain(threads, first, second):
    """The least of the shortest ways of links between two numbers, a tuple, or None."""
    if not are_together(threads, first, second):
        return None
    links = links_with(threads, first)
    steps = steps_to(links, second)
    way = [first]
    while way[-1] != second:
        nearer = [number for number in links[way[-1]] if steps[number] < steps[way[-1]]]
        way.append(min(nearer))
    return tuple(way)


def links_with(threads, number):
    """The linked numbers of each number in the thread of a number: a dict of lists."""
    members = threads.members(number)
    links = {each: [] for each in members + threads.absent(number)}
    for member in members:
        for answered in threads.letter_at(member).answers:
            links[member].append(answered)
            links[answered].append(member)
    return links


def steps_to(links, goal):
    """How many links lead from each number to the goal: a dict."""
    steps = {goal: 0}
    edge = [goal]
    many = 0
    while edge:
        many += 1
        edge = sorted({other for number in edge for other in links[number] if other not in steps})
        for reached in edge:
            steps[reached] = many
    return steps
