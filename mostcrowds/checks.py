"""What any value is asked before it is used."""

LETTERS = "abcdefghijklmnopqrstuvwxyz"
DIGITS = "0123456789"
LONGEST_NAME = 4

# These words mean something else in the texts of groups and programs.
BARRED = ("all", "none", "at", "if", "else", "end", "say", "stop")


def is_integer(value):
    """Whether a value is an integer: Python counts bools as integers, this package does not."""
    return isinstance(value, int) and not isinstance(value, bool)


def is_count(value):
    """Whether a value is an integer from 0."""
    return is_integer(value) and value >= 0


def is_sequence(value):
    """Whether a value may be passed where a sequence is expected."""
    return isinstance(value, (list, tuple))


def is_name(value):
    """Whether a value is a name."""
    if not isinstance(value, str) or value in BARRED:
        return False
    return 1 <= len(value) <= LONGEST_NAME and all([letter in LETTERS for letter in value])


def is_number(word, most):
    """Whether a word is a number of at most so many decimal digits, without leading zeros."""
    if not 1 <= len(word) <= most or not all([digit in DIGITS for digit in word]):
        return False
    return word == "0" or word[0] != "0"


def is_kind(value):
    """Whether a value is a kind as it may be passed: a sequence of different names in any order."""
    if not is_sequence(value) or not all([is_name(name) for name in value]):
        return False
    return len(set(value)) == len(value)
