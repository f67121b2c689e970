"""Walks: going through the rows of a program, with sorts of members that are told apart.

For a run, sorts are the kinds that have members in the crowd; for a way, all kinds of the names. What a name holds is
told as one integer, with a binary digit for each sort.
"""

from mostcrowds.claims import is_kept
from mostcrowds.kinds import all_sorts
from mostcrowds.rows import If, Let, Say, While, in_order
from mostcrowds.steps import who
from mostcrowds.tallies import weights_where

ENDS = "ends"
STOPS = "stops"
NEVER = "never"


class Walk:
    """How far one is: the row to be done next, what the names hold, and what was there and was said before."""

    def __init__(self, plan, held, many):
        self.plan = plan
        self.held = held
        self.many = many
        self.at = 0
        self.seen = {}
        self.words = ()
        self.end = None

    def twin(self):
        """Another walk that is as far as this one."""
        other = Walk(self.plan, dict(self.held), self.many)
        other.at = self.at
        other.seen = {stand: self.seen[stand] for stand in self.seen}
        other.words = self.words
        return other

    def asked(self):
        """Does rows up to one with a claim, and tells its weights for all sorts; `None` if it ends before that."""
        while self.end is None:
            stand = (self.at, tuple(self.held.values()))
            if self.at == len(self.plan):
                self.end = ENDS
            elif stand in self.seen:
                self.end = NEVER
                self.words = ()
            else:
                self.seen[stand] = True
                row, ahead, _ = self.plan[self.at]
                if has_claim(row):
                    return weights_where(row.claim.tally, self.held, self.many)
                self.work(row)
                self.at = ahead
        return None

    def work(self, row):
        """Does a row without a claim."""
        if isinstance(row, Let):
            self.held[row.name] = who(row.group.steps, self.held, all_sorts(self.many))
        elif isinstance(row, Say):
            self.words = (*self.words, row.word)
        else:
            self.end = STOPS

    def answer(self, value):
        """Goes on from a row with a claim, of whose tally the value or its sign is told."""
        row, ahead, otherwise = self.plan[self.at]
        self.at = ahead if is_kept(row.claim.word, value) else otherwise


def begun(program, held, many):
    """A walk at the first row of a program."""
    return Walk(planned(program.rows, 0, len(in_order(program.rows))), held, many)


def has_claim(row):
    """Whether a row asks a claim."""
    return isinstance(row, If) or isinstance(row, While)


def planned(rows, start, behind):
    """The rows and all rows in them, in order, each with the numbers of the rows to go on with.

    A row with a claim has two different ones: if the claim holds, and if not. `start` is the number of the first row,
    `behind` that of the row to be done when these are done.
    """
    made = []
    for at, row in enumerate(rows):
        place = start + len(made)
        following = place + len(in_order([row]))
        made.extend(planned_row(row, place, following if at + 1 < len(rows) else behind))
    return made


def planned_row(row, place, after):
    """What `planned` tells, for one row with a number."""
    if isinstance(row, While):
        rows = planned(row.rows, place + 1, place)
        return [(row, place + 1 if rows else place, after), *rows]
    if isinstance(row, If):
        other_place = place + 1 + len(in_order(row.rows))
        rows = planned(row.rows, place + 1, after)
        others = planned(row.others, other_place, after)
        return [(row, place + 1 if rows else after, other_place if others else after), *rows, *others]
    return [(row, after, after)]
