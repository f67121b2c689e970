"""Systems: lists of claims, told by their weights alone, and what can be worked out of these.

A system is a list of pairs (word, weights): the word of a claim and what a single member of each kind counts. All its
weights have the same length: how many kinds are looked at.
"""

from mostcrowds.claims import EVEN, LEAST, MORE
from mostcrowds.crowds import Crowd
from mostcrowds.kinds import kinds
from mostcrowds.scaling import lowest
from mostcrowds.simplex import optimum
from mostcrowds.tallies import weights


def system_of(claims, names):
    """The system of claims, for all kinds of these ascending names."""
    return [(claim.word, weights(claim.tally, names)) for claim in claims]


def crowd_of(numbers, names):
    """The crowd with such a number of members of each kind of these ascending names; `None` if there are none."""
    if numbers is None:
        return None
    return Crowd(list(zip(kinds(names), numbers)))


def negated(numbers):
    """All numbers with the other sign."""
    return [-number for number in numbers]


def sum_of_products(numbers, others):
    """The sum of the products of numbers and as many others."""
    return sum([number * other for number, other in zip(numbers, others)])


def one_at(place, many):
    """So many weights, 1 for the kind with a number and 0 for all others."""
    return [1 if kind == place else 0 for kind in range(many)]


def contraries(word, row):
    """What breaks a claim: the claim follows exactly if none of these is possible."""
    if word == EVEN:
        return [(MORE, row), (MORE, negated(row))]
    return [(MORE if word == LEAST else LEAST, negated(row))]


def best(system, cap, gains):
    """The greatest gain in what keeps a system and does not bring the cap above 1.

    The cap and the gains have one item more than the weights. It is for the margin that all `more` claims have at
    least, which is another amount to be chosen.
    """
    rows = [row for word, told in system for row in rows_of(word, told)]
    return optimum([*rows, cap], [0] * len(rows) + [1], gains)


def rows_of(word, told):
    """What a claim keeps from being above 0: the margin less its value; the value of an `even` one on either side."""
    if word == EVEN:
        return [[*negated(told), 0], [*told, 0]]
    return [[*negated(told), 1 if word == MORE else 0]]


def margin(system, many):
    """The greatest margin up to 1: that is 1 if a crowd keeps the system, as crowds can be multiplied, else 0."""
    chosen = one_at(many, many + 1)
    return best(system, chosen, chosen)


def kept(system, many):
    """Numbers of members of each of so many kinds that keep a system, or `None`; few of them are above 0.

    As many amounts are inside as there are rows: two for each `even` claim, one for each other claim, and the cap. One
    of these amounts is the margin, and for each `even` claim one is what is left of one of its rows. So at most as many
    kinds as there are claims have members.
    """
    found = margin(system, many)
    if found.gain == 0:
        return None
    return lowest(found.amounts[:many])


def shown_by(system, found):
    """One number for each claim, out of the prices of its rows: if the margin is 0, these are a right paper."""
    prices = list(found.prices)
    shown = []
    for word, _ in system:
        price = prices.pop(0)
        if word == EVEN:
            price = price - prices.pop(0)
        shown.append(price)
    return shown


def fewest_kept(systems, many):
    """Numbers as `kept` tells them for one of the systems, of which as few as possible are above 0, or `None`."""
    fewest = None
    most = many
    for system in systems:
        found = few_kept(system, many, most)
        if found is not None:
            fewest = found
            most = len(support(found)) - 1
    return fewest


def support(numbers):
    """The kinds that have members."""
    return [kind for kind, number in enumerate(numbers) if number > 0]


def few_kept(system, many, most):
    """Numbers as `kept` tells them, of which as few as possible, and at most so many, are above 0, or `None`."""
    found = kept(system, many)
    if found is None:
        return None
    choices = [()]
    cuts = []
    for _ in range(min(len(support(found)), most + 1)):
        fewer = first_kept(system, many, choices, cuts)
        if fewer is not None:
            return fewer
        choices = one_longer(choices, many)
    return found if len(support(found)) <= most else None


def first_kept(system, many, choices, cuts):
    """Numbers that keep a system and are 0 but for the first choice of kinds for which there are some, or `None`.

    If there are none, weights show it that count no kind of the choice above 0. Each crowd that keeps the system has
    members of a kind that they do count above 0. These kinds are a cut: choices without any of them are left out.
    """
    for chosen in choices:
        tried = table_of(chosen)
        if all([tried & cut != 0 for cut in cuts]):
            among = with_kinds(system, chosen)
            found = margin(among, len(chosen))
            if found.gain > 0:
                return spread(lowest(found.amounts[:len(chosen)]), chosen, many)
            cuts.append(counted(system, shown_by(among, found), many))
    return None


def with_kinds(system, chosen):
    """The system with the weights for the kinds with these numbers alone, in this order."""
    return [(word, [row[kind] for kind in chosen]) for word, row in system]


def table_of(chosen):
    """Some kinds, told as one integer."""
    return sum([1 << kind for kind in chosen])


def spread(numbers, chosen, many):
    """The numbers for the chosen kinds, and 0 for all others."""
    told = {kind: number for kind, number in zip(chosen, numbers)}
    return [told.get(kind, 0) for kind in range(many)]


def counted(system, shown, many):
    """The kinds that claims with these weights count above 0 in sum, told as one integer."""
    sums = [sum_of_products(shown, [row[kind] for _, row in system]) for kind in range(many)]
    return table_of(support(sums))


def one_longer(choices, many):
    """From all ascending tuples of numbers below `many` of one length, in order: those with one number more."""
    return [
        (*chosen, number) for chosen in choices for number in range(chosen[-1] + 1 if chosen else 0, many)
    ]


def fullest_kept(system, many):
    """Numbers as `kept` tells them, above 0 wherever possible, as are the values of the `least` claims, or `None`."""
    full = kept(system, many)
    if full is None:
        return None
    for kind in range(many):
        full = raised(full, one_at(kind, many), system)
    for word, row in system:
        if word == LEAST:
            full = raised(full, row, system)
    return full


def raised(numbers, row, system):
    """Numbers that keep a system and have a value above 0, where the system allows it, added to those that keep it."""
    if sum_of_products(numbers, row) > 0:
        return numbers
    more = kept([*system, (MORE, row)], len(row))
    if more is None:
        return numbers
    return [number + other for number, other in zip(numbers, more)]
