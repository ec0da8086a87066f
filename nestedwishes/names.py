"""Names and integers."""

LETTERS = "abcdefghijklmnopqrstuvwxyz"
LONGEST = 8


def is_name(word):
    """Tell if a value is a string of one to eight letters from a to z."""
    return isinstance(word, str) and 1 <= len(word) <= LONGEST and all([letter in LETTERS for letter in word])


def is_key(name, table):
    """Tell if a value is one of the names of a table."""
    # Not every value could be looked up in a dict.
    return isinstance(name, str) and name in table


def is_plain_int(number):
    """Tell if a value is an int that is not True or False."""
    return isinstance(number, int) and not isinstance(number, bool)
