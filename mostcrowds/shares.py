"""Shares: how much or how little of one tally another one can be."""

from mostcrowds.claims import EVEN, LEAST, MORE
from mostcrowds.kinds import names_of
from mostcrowds.papers import is_right, refuted
from mostcrowds.scaling import lowest
from mostcrowds.systems import best, crowd_of, kept, negated, sum_of_products, system_of
from mostcrowds.tallies import weights

NONE = "none"
ENDLESS = "endless"
REACHED = "reached"
NEARED = "neared"


class Bound:
    """What a share can be at most or at least: a word and, for two of the words, a fraction in lowest terms."""

    def __init__(self, word, value):
        self.word = word
        self.value = value

    def __eq__(self, other):
        return isinstance(other, Bound) and self.word == other.word and self.value == other.value

    def __str__(self):
        if self.value is None:
            return f"{self.word}"
        return f"{self.word} {self.value[0]}/{self.value[1]}"


def greatest(top, bottom, claims=()):
    """What `top`, divided by `bottom`, can be at most where the claims are kept and `bottom` is above 0."""
    names = names_of([top, bottom, *claims])
    return greatest_bound(weights(top, names), weights(bottom, names), system_of(claims, names))


def least(top, bottom, claims=()):
    """What `top`, divided by `bottom`, can be at least where the claims are kept and `bottom` is above 0."""
    names = names_of([top, bottom, *claims])
    turned = greatest_bound(negated(weights(top, names)), weights(bottom, names), system_of(claims, names))
    if turned.value is None:
        return turned
    return Bound(turned.word, (-turned.value[0], turned.value[1]))


def greatest_bound(upper, lower, system):
    """The `Bound` for the weights of `top` and `bottom` and a system of claims."""
    meant = [*system, (MORE, lower)]
    numbers = kept(meant, len(lower))
    if numbers is None:
        return Bound(NONE, None)
    value = greatest_value(upper, lower, system, share_in(numbers, upper, lower))
    if value is None:
        return Bound(ENDLESS, None)
    reaching = kept([*meant, (EVEN, excess(upper, lower, value))], len(lower))
    return Bound(NEARED if reaching is None else REACHED, value)


def share_in(numbers, upper, lower):
    """The share among such numbers of members of each kind, in lowest terms."""
    return tuple(lowest([sum_of_products(numbers, upper), sum_of_products(numbers, lower)]))


def excess(upper, lower, value):
    """Weights that are above 0 in sum exactly where the share is greater than a fraction and `bottom` above 0."""
    over, under = value
    return [under * high - over * low for high, low in zip(upper, lower)]


def greatest_value(upper, lower, system, value):
    """The least fraction that no share exceeds, in lowest terms, if one of the shares is known; `None` if endless.

    Told for one in `bottom`, the excess is the denominator times how much greater the share is than the known one. It
    does not matter that `more` claims are relaxed: as one crowd keeps them, there are others that do near to each one
    that keeps the relaxed claims.
    """
    among = [*relaxed(system), (LEAST, lower)]
    found = best(among, [*lower, 0], [*excess(upper, lower, value), 0])
    if found is None:
        return None
    over, under = value
    return tuple(lowest([over * found.scale + found.gain, under * found.scale]))


def relaxed(system):
    """The system with `least` in the place of `more`."""
    return [(LEAST if word == MORE else word, row) for word, row in system]


def shown_system(top, bottom, claims, value):
    """The system that has a share's papers as its right papers: they show that the excess cannot be above 0."""
    names = names_of([top, bottom, *claims])
    upper, lower = weights(top, names), weights(bottom, names)
    return [*relaxed(system_of(claims, names)), (LEAST, lower), (MORE, excess(upper, lower, value))]


def share_paper(top, bottom, claims, value):
    """Some right paper that shows that no share exceeds a fraction, or `None`."""
    system = shown_system(top, bottom, claims, value)
    return refuted(system, len(system[0][1]))


def share_paper_holds(top, bottom, claims, value, shown):
    """Whether any value is a right paper that shows that no share exceeds a fraction."""
    system = shown_system(top, bottom, claims, value)
    return is_right(system, len(system[0][1]), shown)


def nearing(top, bottom, claims, value):
    """Some crowd that keeps the claims, with `bottom` above 0 and a share greater than a fraction, or `None`."""
    names = names_of([top, bottom, *claims])
    upper, lower = weights(top, names), weights(bottom, names)
    system = [*system_of(claims, names), (MORE, lower), (MORE, excess(upper, lower, value))]
    return crowd_of(kept(system, len(lower)), names)
