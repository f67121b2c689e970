"""Ways: how a program can go, whatever the crowd."""

from mostcrowds.claims import EVEN, MORE, Claim
from mostcrowds.deciding import possible
from mostcrowds.groups import Group
from mostcrowds.kinds import columns
from mostcrowds.scaling import lowest
from mostcrowds.systems import negated
from mostcrowds.walks import ENDS, NEVER, STOPS, begun
from mostcrowds.wording import group_of, tally_of


class Way:
    """A way through a program: the signs of what it asks, and what comes of it, told by groups of the beginning."""

    def __init__(self, signs, end, words, held):
        self.signs = signs
        self.end = end
        self.words = words
        self.claims = tuple([claim_of(tally, sign) for tally, sign in signs])
        self.held = held

    def __getitem__(self, at):
        if self.end == NEVER:
            return Group.nothing()
        return self.held[at] if at in self.held else Group.named(at)

    # Without this, Python would go through a way by asking for the items 0, 1 and so on.
    def __iter__(self):
        raise TypeError("a way cannot be iterated over")


def claim_of(tally, sign):
    """The claim that a tally has a sign."""
    if sign == 0:
        return Claim(EVEN, tally)
    return Claim(MORE, tally if sign > 0 else -tally)


def ways(program):
    """All ways through a program."""
    return tuple([way_in(program, walk, signs) for walk, signs in ended_walks(program)])


def way_in(program, walk, signs):
    """The `Way` that a walk to the end has gone."""
    return Way(signs, walk.end, walk.words, {name: group_of(walk.held[name], program.names) for name in program.names})


def ended_walks(program):
    """For each way, in order: the walk to its end, and what was asked on it with the signs that were told."""
    found = []
    waiting = [(begun(program, columns(program.names), 1 << len(program.names)), (), {})]
    while waiting:
        walk, signs, known = waiting.pop()
        row = settled_as_far_as_known(walk, known)
        if row is None:
            found.append((walk, signs))
        else:
            tally = tally_of(row, program.names)
            # The last one that waits is gone first.
            for sign in coming_signs(row)[::-1]:
                other = walk.twin()
                other.answer(sign)
                waiting.append((other, (*signs, (tally, sign)), with_sign(known, row, sign)))
    return found


def settled_as_far_as_known(walk, known):
    """Goes on with a walk up to a claim whose sign has to be asked, and tells its weights; `None` at the end."""
    row = walk.asked()
    while row is not None:
        sign = known_sign(known, row)
        if sign is None:
            return row
        walk.answer(sign)
        row = walk.asked()
    return None


def known_sign(known, row):
    """The sign of a tally with these weights, if it can be told without looking at the crowd, or `None`."""
    if not any(row):
        return 0
    return known.get(tuple(lowest(row)))


def with_sign(known, row, sign):
    """What is known, and besides that a tally with weights in these proportions has a sign."""
    told = {proportions: known[proportions] for proportions in known}
    told[tuple(lowest(row))] = sign
    told[tuple(lowest(negated(row)))] = -sign
    return told


def coming_signs(row):
    """The signs that a tally with these weights can have as far as its weights tell, in order."""
    above = [1] if any([weight > 0 for weight in row]) else []
    below = [-1] if any([weight < 0 for weight in row]) else []
    return [*above, 0, *below]


def way_of(program, crowd):
    """The number of the way that is gone in a crowd."""
    kept = [all([claim.holds(crowd) for claim in way.claims]) for way in ways(program)]
    return kept.index(True)


def may_end(program, claims=()):
    """Whether a crowd that keeps the claims has a run that ends behind the last row."""
    return may_come_to(ENDS, program, claims)


def may_stop(program, claims=()):
    """Whether a crowd that keeps the claims has a run that is stopped."""
    return may_come_to(STOPS, program, claims)


def may_circle(program, claims=()):
    """Whether a crowd that keeps the claims has a run that never ends."""
    return may_come_to(NEVER, program, claims)


def may_come_to(end, program, claims):
    """Whether a crowd that keeps the claims has a run with this end."""
    for way in ways(program):
        if way.end == end and possible([*claims, *way.claims]):
            return True
    return False


def measures(program):
    """The number of the ways through a program, and the greatest number of rows that are done on one of them."""
    done = [len(walk.seen) for walk, _ in ended_walks(program)]
    return len(done), max([int(many) for many in done])
