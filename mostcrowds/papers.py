"""Papers: weights that show that claims are not possible together."""

from mostcrowds.checks import is_integer
from mostcrowds.claims import EVEN, MORE
from mostcrowds.kinds import names_of
from mostcrowds.scaling import lowest
from mostcrowds.systems import margin, shown_by, sum_of_products, system_of


def paper(claims):
    """Some right paper for claims, or `None`."""
    names = names_of(claims)
    return refuted(system_of(claims, names), 1 << len(names))


def paper_holds(claims, value):
    """Whether any value is a right paper for claims."""
    names = names_of(claims)
    return is_right(system_of(claims, names), 1 << len(names), value)


def refuted(system, many):
    """A right paper for a system, as a tuple, or `None`."""
    found = margin(system, many)
    if found.gain > 0:
        return None
    return tuple(lowest(shown_by(system, found)))


def is_right(system, many, value):
    """Whether any value is a right paper for a system for so many kinds."""
    if not isinstance(value, tuple) or len(value) != len(system) or not all([is_integer(item) for item in value]):
        return False
    words = [word for word, _ in system]
    if any([item < 0 and word != EVEN for item, word in zip(value, words)]):
        return False
    if not any([item > 0 and word == MORE for item, word in zip(value, words)]):
        return False
    return all([sum_of_products(value, [row[kind] for _, row in system]) <= 0 for kind in range(many)])
