"""Tallies: sums of counts."""

from mostcrowds.checks import is_integer, is_number, is_sequence
from mostcrowds.errors import InvalidTally, InvalidText
from mostcrowds.groups import Group
from mostcrowds.kinds import all_sorts, columns, names_of
from mostcrowds.reading import MOST_DIGITS, word_at
from mostcrowds.steps import read_steps, who

SIGNS = {"+": 1, "-": -1}

# The text of a tally without terms.
EMPTY = "0"


class Tally:
    """A sum of counts of groups, each with a number as its weight."""

    def __init__(self, terms=()):
        if not is_sequence(terms) or not all([is_term(term) for term in terms]):
            raise InvalidTally("terms")
        self.terms = tuple(terms)
        self.names = tuple(names_of([group for _, group in self.terms]))

    @classmethod
    def of(cls, group):
        """The tally that counts a group once."""
        return cls([(1, group)])

    @classmethod
    def read(cls, text):
        """The tally with a text."""
        return cls(read_terms(text.split(" "), 0))

    def weight(self, kind):
        """What a single member of a kind counts."""
        return sum([number for number, group in self.terms if group.has(kind)])

    def on(self, crowd):
        """The value in a crowd."""
        return sum([self.weight(kind) * many for kind, many in crowd.parts])

    def __add__(self, other):
        if not isinstance(other, Tally):
            return NotImplemented
        return Tally(self.terms + other.terms)

    def __sub__(self, other):
        if not isinstance(other, Tally):
            return NotImplemented
        return Tally(self.terms + multiplied(other, -1).terms)

    def __neg__(self):
        return multiplied(self, -1)

    def __mul__(self, other):
        if not is_integer(other):
            return NotImplemented
        return multiplied(self, other)

    def __rmul__(self, other):
        if not is_integer(other):
            return NotImplemented
        return multiplied(self, other)

    def __le__(self, other):
        if not isinstance(other, Tally):
            return NotImplemented
        return at_most(self, other)

    def __lt__(self, other):
        if not isinstance(other, Tally):
            return NotImplemented
        return at_most(self, other) and not at_most(other, self)

    def __ge__(self, other):
        if not isinstance(other, Tally):
            return NotImplemented
        return at_most(other, self)

    def __gt__(self, other):
        if not isinstance(other, Tally):
            return NotImplemented
        return at_most(other, self) and not at_most(self, other)

    def __eq__(self, other):
        return isinstance(other, Tally) and at_most(self, other) and at_most(other, self)

    def __str__(self):
        return str(text_of_terms(self.terms))


def is_term(value):
    """Whether a value is a pair of an integer and a group."""
    return isinstance(value, tuple) and len(value) == 2 and is_integer(value[0]) and isinstance(value[1], Group)


def multiplied(tally, number):
    """The tally with all its numbers multiplied."""
    return Tally([(many * number, group) for many, group in tally.terms])


def weights(tally, names):
    """What a single member of each kind of these ascending names counts, in the order of `kinds`."""
    return weights_where(tally, columns(names), 1 << len(names))


def weights_where(tally, having, many):
    """What a single member of each of so many sorts counts, if `having` tells which sorts have a name."""
    found = [0] * many
    for number, group in tally.terms:
        inside = who(group.steps, having, all_sorts(many))
        found = [weight + number * ((inside >> sort) & 1) for sort, weight in enumerate(found)]
    return found


def at_most(tally, other):
    """Whether no member of any kind counts more than for the other tally."""
    names = names_of([tally, other])
    return all([mine <= others for mine, others in zip(weights(tally, names), weights(other, names))])


def text_of_terms(terms):
    """The text of the tally with these terms."""
    if not terms:
        return EMPTY
    return " ".join([text_of_term(number, group) for number, group in terms])


def text_of_term(number, group):
    """The text of a term: the sign, the number if it is not 1, and the group."""
    sign = "-" if number < 0 else "+"
    if abs(number) == 1:
        return f"{sign} {group}"
    return f"{sign} {abs(number)} {group}"


def read_terms(words, start):
    """The terms of the tally whose text is all words from a number on."""
    if words[start:] == [EMPTY]:
        return []
    terms = []
    at = start
    while at < len(words) or not terms:
        number, behind = read_number(words, at)
        steps, at = read_steps(words, behind)
        terms.append((number, Group(steps)))
    return terms


def read_number(words, at):
    """The number that a sign at a word, and perhaps the word behind it, tell, and the number of the next word."""
    sign = word_at(words, at)
    if sign not in SIGNS:
        raise InvalidText(at)
    word = word_at(words, at + 1)
    if is_number(word, MOST_DIGITS):
        return SIGNS[sign] * int(word), at + 2
    return SIGNS[sign], at + 1
