"""Kinds of members: in which of the named groups a member is."""


def kinds(names):
    """All kinds of members if only the groups with these names are looked at."""
    ordered = sorted(set(names))
    return tuple([kind_at(ordered, number) for number in range(1 << len(ordered))])


def kind_at(names, number):
    """The kind with a number: its binary digits tell which of the ascending names the kind has."""
    return tuple([name for at, name in enumerate(names) if (number >> at) & 1 == 1])


def names_of(parts):
    """The names in groups, tallies, claims, rows or programs, ascending."""
    return sorted(set([name for part in parts for name in part.names]))


def columns(names):
    """For each of the ascending names the kinds that have it.

    Many kinds together are told as one integer: its binary digit for 2 ** k is 1 if the kind with the number k
    is among them.
    """
    return {name: column(at, 1 << len(names)) for at, name in enumerate(names)}


def column(at, many):
    """Which of so many kinds have the name with a number: blocks of kinds without it and with it take turns."""
    block = 1 << at
    having = ((1 << block) - 1) << block
    width = block + block
    while width < many:
        having = having | (having << width)
        width = width + width
    return having


def all_sorts(many):
    """All of so many sorts of members, told as one integer."""
    return (1 << many) - 1
