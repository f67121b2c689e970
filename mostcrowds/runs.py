"""Runs: what a program does with the members of a given crowd."""

from mostcrowds.crowds import Crowd
from mostcrowds.groups import Group
from mostcrowds.systems import sum_of_products
from mostcrowds.walks import NEVER, begun


class Outcome:
    """What comes of a run: how it ends, what was said, and what the names hold in the end."""

    def __init__(self, end, words, held, before, after):
        self.end = end
        self.words = words
        self.names = tuple(held)
        self.held = held
        self.before = before
        self.after = after

    def __getitem__(self, at):
        if at in self.held:
            return self.held[at]
        return Crowd() if self.end == NEVER else self.before.only(Group.named(at))

    # Without this, Python would go through an outcome by asking for the items 0, 1 and so on.
    def __iter__(self):
        raise TypeError("an outcome cannot be iterated over")

    def __eq__(self, other):
        return isinstance(other, Outcome) and told(self) == told(other)


def told(outcome):
    """What two outcomes have in common if they are equal."""
    return outcome.end, outcome.words, outcome.names, outcome.held


def run(program, crowd):
    """The `Outcome` of a program on a crowd."""
    numbers = [number for _, number in crowd.parts]
    walk = begun(program, {name: having(crowd, name) for name in program.names}, len(numbers))
    row = walk.asked()
    while row is not None:
        walk.answer(sum_of_products(row, numbers))
        row = walk.asked()
    if walk.end == NEVER:
        return Outcome(NEVER, (), {name: Crowd() for name in program.names}, crowd, crowd)
    held = {name: part_of(crowd, walk.held[name]) for name in program.names}
    return Outcome(walk.end, walk.words, held, crowd, changed(crowd, walk.held))


def having(crowd, name):
    """Which parts of a crowd are in the group with a name, told as one integer."""
    return sum([1 << at for at, (kind, _) in enumerate(crowd.parts) if name in kind])


def part_of(crowd, table):
    """The crowd of the parts that an integer tells."""
    return Crowd([part for at, part in enumerate(crowd.parts) if (table >> at) & 1 == 1])


def changed(crowd, held):
    """The crowd with its members in the groups of the names that hold them, and in the other groups as before."""
    return Crowd([(changed_kind(kind, at, held), number) for at, (kind, number) in enumerate(crowd.parts)])


def changed_kind(kind, at, held):
    """The kind that the part of a crowd with a number has in the end."""
    others = [name for name in kind if name not in held]
    return others + [name for name in held if (held[name] >> at) & 1 == 1]
