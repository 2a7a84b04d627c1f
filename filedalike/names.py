"""Names, letter numbers, numerals, and collections of names in book order."""

ALPHABET = "abcdefghijklmnopqrstuvwxyz"
LONGEST_NAME = 8
LONGEST_NUMERAL = 31
GREATEST_NUMBER = 10 ** 30


def is_name(value):
    """Whether a value, of any kind, is a name."""
    if not isinstance(value, str) or not 1 <= len(value) <= LONGEST_NAME:
        return False
    return all(["a" <= sign <= "z" for sign in value])


def is_number(value):
    """Whether a value, of any kind, is a letter number."""
    # True and False are integers for Python, but not for the house.
    return isinstance(value, int) and not isinstance(value, bool) and 1 <= value <= GREATEST_NUMBER


def is_count(value):
    """Whether a value, of any kind, is an integer from 0 to 10 ** 30."""
    return is_number(value) or isinstance(value, int) and not isinstance(value, bool) and value == 0


def is_numeral(text):
    """Whether a string is a numeral: up to 31 digits, the first not 0."""
    if not 1 <= len(text) <= LONGEST_NUMERAL or text[0] == "0":
        return False
    return all(["0" <= sign <= "9" for sign in text])


def those_in(names, held):
    """The names that stand in another collection, too: a tuple in the order of the names."""
    return tuple([name for name in names if name in held])
