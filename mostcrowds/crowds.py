"""Crowds: how many members there are of each kind."""

from mostcrowds.checks import is_count, is_integer, is_kind, is_number, is_sequence
from mostcrowds.errors import InvalidCrowd, InvalidText

MOST_TIMES = 1000
MOST_DIGITS = 31
NOBODY = "nobody"
BETWEEN = ", "


class Crowd:
    """So many members of each kind."""

    def __init__(self, parts=()):
        if not is_sequence(parts):
            raise InvalidCrowd(0)
        for at, part in enumerate(parts):
            if not is_part(part):
                raise InvalidCrowd(at)
        self.parts = gathered(parts)
        self.size = sum([number for _, number in self.parts])

    @classmethod
    def read(cls, text):
        """The crowd with a text."""
        return cls(read_parts(text))

    def count(self, group):
        """The number of members in a group."""
        return sum([number for kind, number in self.parts if group.has(kind)])

    def only(self, group):
        """The crowd of the members in a group."""
        return Crowd([(kind, number) for kind, number in self.parts if group.has(kind)])

    def __len__(self):
        return len(self.parts)

    def __bool__(self):
        return bool(self.size > 0)

    def __getitem__(self, at):
        return many_of(self.parts, tuple(sorted(set(at))))

    # Without this, Python would go through a crowd by asking for the items 0, 1 and so on.
    def __iter__(self):
        raise TypeError("a crowd cannot be iterated over")

    def __add__(self, other):
        if not isinstance(other, Crowd):
            return NotImplemented
        return Crowd(self.parts + other.parts)

    def __mul__(self, other):
        if not is_integer(other) or not 0 <= other <= MOST_TIMES:
            return NotImplemented
        return times(self, other)

    def __rmul__(self, other):
        if not is_integer(other) or not 0 <= other <= MOST_TIMES:
            return NotImplemented
        return times(self, other)

    def __eq__(self, other):
        return isinstance(other, Crowd) and self.parts == other.parts

    def __str__(self):
        return str(text_of_parts(self.parts))


def is_part(value):
    """Whether a value is a pair of a kind and a number of members."""
    return isinstance(value, tuple) and len(value) == 2 and is_kind(value[0]) and is_count(value[1])


def gathered(parts):
    """The parts of a crowd: each kind that has members once, ascending."""
    many = {}
    for kind, number in parts:
        ordered = tuple(sorted(set(kind)))
        many[ordered] = many.get(ordered, 0) + number
    return tuple([(kind, many[kind]) for kind in sorted(set(many)) if many[kind] > 0])


def many_of(parts, wanted):
    """The number of members of a kind."""
    return sum([number for kind, number in parts if kind == wanted])


def times(crowd, number):
    """So many crowds like this, side by side."""
    return Crowd([(kind, many * number) for kind, many in crowd.parts])


def text_of_parts(parts):
    """The text of the crowd with these parts."""
    if not parts:
        return NOBODY
    return BETWEEN.join([" ".join([str(number), *kind]) for kind, number in parts])


def read_parts(text):
    """The parts that a text tells."""
    if text == NOBODY:
        return []
    return [read_part(part.split(" "), at) for at, part in enumerate(text.split(BETWEEN))]


def read_part(words, at):
    """The kind and the number that the words of the part with a number tell."""
    number, kind = words[0], words[1:]
    if not is_number(number, MOST_DIGITS) or not is_kind(kind):
        raise InvalidText(at)
    return kind, int(number)
