"""Words of texts, asked one by one."""

from mostcrowds.checks import is_number
from mostcrowds.errors import InvalidText

MOST_DIGITS = 9


def word_at(words, at):
    """The word with a number, which is not above how many words there are."""
    if at == len(words):
        raise InvalidText(at)
    return words[at]


def number_at(words, at):
    """The number that stands as a word."""
    word = word_at(words, at)
    if not is_number(word, MOST_DIGITS):
        raise InvalidText(at)
    return int(word)


def nothing_behind(words, at):
    """Makes sure that a text ends ahead of a word."""
    if at < len(words):
        raise InvalidText(at)
