"""Deciding for all crowds at once: whether claims can hold together, and what follows from them."""

from mostcrowds.kinds import kinds, names_of
from mostcrowds.systems import contraries, crowd_of, fewest_kept, fullest_kept, kept, system_of
from mostcrowds.tallies import weights


def possible(claims):
    """Whether some crowd keeps all claims."""
    return example(claims) is not None


def example(claims):
    """Some crowd that keeps all claims, with members of at most as many kinds as there are claims, or `None`."""
    names = names_of(claims)
    return crowd_of(kept(system_of(claims, names), 1 << len(names)), names)


def fewest(claims):
    """Some crowd that keeps all claims, with members of as few kinds as possible, or `None`."""
    names = names_of(claims)
    return crowd_of(fewest_kept([system_of(claims, names)], 1 << len(names)), names)


def follows(claims, claim):
    """Whether a claim holds in all crowds that keep the claims."""
    names = names_of([*claims, claim])
    system = system_of(claims, names)
    row = weights(claim.tally, names)
    return all([kept([*system, against], len(row)) is None for against in contraries(claim.word, row)])


def open_kinds(claims):
    """Those kinds, in the order of `kinds`, of which a crowd that keeps all claims can have members."""
    crowd = fullest(claims)
    if crowd is None:
        return ()
    return tuple([kind for kind in kinds(names_of(claims)) if crowd[kind] > 0])


def fullest(claims):
    """Some crowd that keeps all claims, with members of all open kinds and all that can be above 0, or `None`."""
    names = names_of(claims)
    return crowd_of(fullest_kept(system_of(claims, names), 1 << len(names)), names)
