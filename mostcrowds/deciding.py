"""Deciding for all crowds at once: whether claims can hold together, and what follows from them."""

from mostcrowds.kinds import kinds
from mostcrowds.systems import contraries, crowd_of, fewest_kept, fullest_kept, kept, names_of, system_of
from mostcrowds.tallies import weights


def possible(claims):
    """Whether some crowd keeps all claims."""
    return found_by(kept, claims) is not None


def example(claims):
    """Some crowd that keeps all claims, with members of at most as many kinds as there are claims, or `None`."""
    return crowd_by(kept, claims)


def fewest(claims):
    """Some crowd that keeps all claims, with members of as few kinds as possible, or `None`."""
    return crowd_by(fewest_kept, claims)


def follows(claims, claim):
    """Whether a claim holds in all crowds that keep the claims."""
    names = names_of([*claims, claim])
    system = system_of(claims, names)
    row = weights(claim.tally, names)
    return all([kept([*system, against], len(row)) is None for against in contraries(claim.word, row)])


def open_kinds(claims):
    """Those kinds, in the order of `kinds`, of which a crowd that keeps all claims can have members."""
    numbers = found_by(fullest_kept, claims)
    if numbers is None:
        return ()
    return tuple([kind for kind, number in zip(kinds(names_of(claims)), numbers) if number > 0])


def fullest(claims):
    """Some crowd that keeps all claims, with members of all open kinds and all that can be above 0, or `None`."""
    return crowd_by(fullest_kept, claims)


def found_by(method, claims):
    """The numbers of members of each kind that a function of systems finds for claims, or `None`."""
    names = names_of(claims)
    return method(system_of(claims, names), 1 << len(names))


def crowd_by(method, claims):
    """The crowd with the numbers of members that a function of systems finds for claims, or `None`."""
    numbers = found_by(method, claims)
    if numbers is None:
        return None
    return crowd_of(numbers, names_of(claims))
