"""Halls: a crowd that changes, and what is done to it can be taken back."""

from mostcrowds.crowds import Crowd
from mostcrowds.errors import Endless, InvalidCrowd, NoMember, Refused
from mostcrowds.runs import run
from mostcrowds.walks import NEVER


class Hall:
    """Keeps a crowd, and the crowds that were there before each deed."""

    def __init__(self, crowd=None):
        if crowd is not None and not isinstance(crowd, Crowd):
            raise InvalidCrowd(0)
        self.now = Crowd() if crowd is None else crowd
        self.before = []

    @property
    def crowd(self):
        """The crowd that is there."""
        return self.now

    @crowd.setter
    def crowd(self, value):
        if not isinstance(value, Crowd):
            raise InvalidCrowd(0)
        self.become(value)

    def gather(self, crowd):
        """Sets the crowd."""
        if not isinstance(crowd, Crowd):
            raise InvalidCrowd(0)
        self.become(crowd)

    def become(self, crowd):
        """Is another crowd from now on, which can be taken back."""
        self.before.append(self.now)
        self.now = crowd

    def enter(self, kind, number=1):
        """So many members of a kind come."""
        self.become(self.now + Crowd([(kind, number)]))

    def leave(self, kind, number=1):
        """So many members of a kind go."""
        wanted = tuple(sorted(set(kind)))
        there = self.now[wanted]
        if there < number:
            raise NoMember(wanted)
        others = [(other, many) for other, many in self.now.parts if other != wanted]
        self.become(Crowd([*others, (wanted, there - number)]))

    def __getitem__(self, at):
        return self.now.count(at)

    # Without this, Python would go through a hall by asking for the items 0, 1 and so on.
    def __iter__(self):
        raise TypeError("a hall cannot be iterated over")

    def __len__(self):
        return len(self.before)

    def holds(self, claim):
        """Whether a claim holds in the crowd."""
        return claim.holds(self.now)

    def do(self, program):
        """Runs a program on the crowd: the words that it says."""
        outcome = run(program, self.now)
        if outcome.end == NEVER:
            raise Endless()
        self.become(outcome.after)
        return outcome.words

    def several(self, programs):
        """Does programs one after another, or none of them if one never ends: the list of what they say."""
        now, before = self.now, list(self.before)
        said = []
        for at, program in enumerate(programs):
            try:
                said.append(self.do(program))
            except Endless as error:
                self.now, self.before = now, before
                raise Refused(at) from error
        return said

    def undo(self):
        """Takes back the last deed: whether there was one."""
        if not self.before:
            return False
        self.now = self.before.pop()
        return True

    def trial(self):
        """A new context manager at whose end the hall is as it was when it was entered."""
        return Trial(self)

    def within(self, work):
        """What a function returns that is called with the hall; then the hall is as it was before."""
        with self.trial() as hall:
            return work(hall)


class Trial:
    """A block in which what is done to a hall is done for a time only."""

    def __init__(self, hall):
        self.hall = hall

    def __enter__(self):
        self.now = self.hall.now
        self.before = list(self.hall.before)
        return self.hall

    def __exit__(self, kind, value, trace):
        hall = self.hall
        hall.now = self.now
        hall.before = self.before
