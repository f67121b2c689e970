"""Groups: some of the members of a crowd that is not given."""

from mostcrowds.checks import is_count, is_name, is_sequence
from mostcrowds.errors import InvalidGroup, InvalidName
from mostcrowds.kinds import all_sorts, columns, names_of
from mostcrowds.reading import nothing_behind
from mostcrowds.steps import AT, NAME, each_once, joined, names_in, read_steps, replaced, text_of, who


class Group:
    """Some of the members of any crowd, told by the named groups that they are in."""

    def __init__(self, steps):
        self.steps = each_once(steps)
        self.names = names_in(self.steps)

    @classmethod
    def named(cls, name):
        """The group with a name."""
        if not is_name(name):
            raise InvalidName(name)
        return cls([(NAME, name, ())])

    @classmethod
    def every(cls):
        """All members."""
        return cls([("all", 0, ())])

    @classmethod
    def nothing(cls):
        """No members."""
        return cls([("none", 0, ())])

    @classmethod
    def at_least(cls, number, groups):
        """Those who are in at least so many of the groups."""
        if not is_count(number):
            raise InvalidGroup("number")
        if not is_sequence(groups) or not all([isinstance(group, Group) for group in groups]):
            raise InvalidGroup("groups")
        return cls(joined(AT, number, [group.steps for group in groups]))

    @classmethod
    def read(cls, text):
        """The group with a text."""
        words = text.split(" ")
        steps, behind = read_steps(words, 0)
        nothing_behind(words, behind)
        return cls(steps)

    def has(self, kind):
        """Whether members of a kind are in the group."""
        return who(self.steps, {name: 1 for name in kind}, 1) == 1

    def put(self, groups):
        """The group with other groups in the place of names, all at once."""
        return Group(replaced(self.steps, {name: groups[name].steps for name in self.names if name in groups}))

    def __and__(self, other):
        if not isinstance(other, Group):
            return NotImplemented
        return both("&", self, other)

    def __or__(self, other):
        if not isinstance(other, Group):
            return NotImplemented
        return both("|", self, other)

    def __sub__(self, other):
        if not isinstance(other, Group):
            return NotImplemented
        return both("-", self, other)

    def __xor__(self, other):
        if not isinstance(other, Group):
            return NotImplemented
        return both("^", self, other)

    def __invert__(self):
        return Group(joined("~", 0, [self.steps]))

    def __le__(self, other):
        if not isinstance(other, Group):
            return NotImplemented
        return all_in(self, other)

    def __lt__(self, other):
        if not isinstance(other, Group):
            return NotImplemented
        return all_in(self, other) and not all_in(other, self)

    def __ge__(self, other):
        if not isinstance(other, Group):
            return NotImplemented
        return all_in(other, self)

    def __gt__(self, other):
        if not isinstance(other, Group):
            return NotImplemented
        return all_in(other, self) and not all_in(self, other)

    def __eq__(self, other):
        return isinstance(other, Group) and same_members(self, other)

    def __bool__(self):
        return bool(table(self, self.names) != 0)

    def __str__(self):
        return str(text_of(self.steps))


def both(sign, group, other):
    """The group that a sign makes out of two."""
    return Group(joined(sign, 0, [group.steps, other.steps]))


def table(group, names):
    """Which kinds of these ascending names are in a group, told as one integer: a binary digit for each kind."""
    return who(group.steps, columns(names), all_sorts(1 << len(names)))


def tables(group, other):
    """The tables of two groups for the names of both."""
    names = names_of([group, other])
    return table(group, names), table(other, names)


def all_in(group, other):
    """Whether all members of a group are in the other one, whatever the crowd."""
    mine, others = tables(group, other)
    return (mine | others) == others


def same_members(group, other):
    """Whether two groups have the same members in every crowd."""
    mine, others = tables(group, other)
    return mine == others
