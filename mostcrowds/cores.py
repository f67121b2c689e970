"""Cores: which of some claims it takes, and which follow from others."""

from mostcrowds.deciding import follows, possible
from mostcrowds.systems import one_longer


def core(claims):
    """The numbers of claims that are not possible together but would be without any one of them, or `None`."""
    if possible(claims):
        return None
    left = list(range(len(claims)))
    for number in range(len(claims)):
        others = without(left, number)
        if not possible(picked(claims, others)):
            left = others
    return tuple(left)


def cores(claims):
    """All ascending tuples of numbers of claims that are not possible together while any fewer of them are."""
    found = []
    choices = [()]
    for _ in range(len(claims)):
        choices = one_longer(choices, len(claims))
        fresh = [chosen for chosen in choices if is_new_core(claims, chosen, found)]
        found.extend(fresh)
    return tuple(found)


def is_new_core(claims, chosen, found):
    """Whether claims with these numbers are not possible together, and no core that was found is among them."""
    if any([all([number in chosen for number in numbers]) for numbers in found]):
        return False
    return not possible(picked(claims, chosen))


def needless(claims):
    """The numbers of those claims each of which follows from all the others."""
    everyone = list(range(len(claims)))
    return tuple([number for number in everyone if is_needless(claims, everyone, number)])


def thinned(claims):
    """The claims that are left when each one is left out, in order, that follows from the others that are left."""
    left = list(range(len(claims)))
    for number in range(len(claims)):
        if is_needless(claims, left, number):
            left = without(left, number)
    return tuple(picked(claims, left))


def is_needless(claims, left, number):
    """Whether a claim follows from the others of those that are left."""
    return follows(picked(claims, without(left, number)), claims[number])


def same_claims(claims, others):
    """Whether the same crowds keep both lists of claims."""
    return all_follow(claims, others) and all_follow(others, claims)


def all_follow(claims, others):
    """Whether all of the other claims follow from the claims."""
    return all([follows(claims, claim) for claim in others])


def without(numbers, number):
    """The numbers except for one."""
    return [other for other in numbers if other != number]


def picked(claims, numbers):
    """The claims with these numbers."""
    return [claims[number] for number in numbers]
