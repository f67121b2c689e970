"""Groups and tallies made out of what they mean: which kinds are in them, and what a member of each kind counts."""

from mostcrowds.groups import Group
from mostcrowds.kinds import all_sorts, kinds
from mostcrowds.tallies import Tally


def group_of(table, names):
    """A group that has just the kinds of these ascending names that an integer tells."""
    if not names:
        return Group.nothing() if table == 0 else Group.every()
    less = names[:-1]
    # The kinds that have the last name stand behind those that do not have it.
    half = 1 << len(less)
    without = table & all_sorts(half)
    having = table >> half
    if without == having:
        return group_of(having, less)
    return parted(Group.named(names[-1]), group_of(without, less), group_of(having, less))


def parted(named, outer, inner):
    """The group that is the inner one among the members of a named group, and another one among all others."""
    everyone = Group.every()
    if not outer:
        return named if inner == everyone else inner & named
    if not inner:
        return ~named if outer == everyone else outer - named
    if inner == everyone:
        return outer | named
    return (outer - named) | (inner & named)


def tally_of(row, names):
    """A tally with these weights for the kinds of these ascending names.

    It counts, for each choice of names, those who are in all of their groups, by what they count beyond what they are
    counted already for fewer of these names.
    """
    found = list(row)
    for at in range(len(names)):
        found = [
            weight - found[kind ^ (1 << at)] if (kind >> at) & 1 == 1 else weight for kind, weight in enumerate(found)
        ]
    return Tally([(number, in_all(kind)) for kind, number in zip(kinds(names), found) if number != 0])


def in_all(names):
    """The group of those who are in all groups with these names."""
    if not names:
        return Group.every()
    group = Group.named(names[0])
    for name in names[1:]:
        group = group & Group.named(name)
    return group
