"""Bridges: what two lists of claims fall out over, told in the names that both have."""

from mostcrowds.claims import LEAST, MORE, Claim
from mostcrowds.deciding import follows, possible
from mostcrowds.kinds import names_of
from mostcrowds.papers import paper
from mostcrowds.scaling import lowest
from mostcrowds.systems import sum_of_products, system_of
from mostcrowds.wording import tally_of


def bridge(claims, others):
    """Some bridge, a `least` or `more` claim, or `None`."""
    shown = paper([*claims, *others])
    if shown is None:
        return None
    mine = shown[:len(claims)]
    shared = shared_names(claims, others)
    is_above = any([weight > 0 and claim.word == MORE for weight, claim in zip(mine, claims)])
    return Claim(MORE if is_above else LEAST, tally_of(lowest(greatest_sums(claims, mine, shared)), shared))


def bridge_holds(claims, others, value):
    """Whether any value is a bridge."""
    if not isinstance(value, Claim):
        return False
    shared = shared_names(claims, others)
    if not all([name in shared for name in value.names]):
        return False
    return follows(claims, value) and not possible([*others, value])


def shared_names(claims, others):
    """The names that both lists of claims have, ascending."""
    theirs = names_of(others)
    return [name for name in names_of(claims) if name in theirs]


def greatest_sums(claims, mine, shared):
    """For each kind of the shared names: what a member of such a kind counts at most in all claims, so weighted."""
    names = names_of(claims)
    places = [names.index(name) for name in shared]
    rows = [row for _, row in system_of(claims, names)]
    found = [[] for _ in range(1 << len(shared))]
    for kind in range(1 << len(names)):
        found[kind_among(kind, places)].append(sum_of_products(mine, [row[kind] for row in rows]))
    return [max([int(value) for value in values]) for values in found]


def kind_among(kind, places):
    """The number of a kind if only the names at these places are looked at."""
    return sum([((kind >> place) & 1) << at for at, place in enumerate(places)])
