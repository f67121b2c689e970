"""Values of all sorts, for the arguments that take any value, and claims told as plain lists."""

import itertools
import math
import random
import re

from mostcrowds.claims import Claim
from mostcrowds.crowds import Crowd
from mostcrowds.deciding import example
from mostcrowds.errors import InvalidName
from mostcrowds.groups import Group
from mostcrowds.papers import paper
from mostcrowds.programs import Program
from mostcrowds.rows import If, Let, Say, Stop, While
from mostcrowds.runs import run
from mostcrowds.shares import greatest
from mostcrowds.tallies import Tally

from tests.recipes import group_of, has, made_recipe, names_of, read, text_of

A, B, C = [Group.named(name) for name in ("a", "b", "c")]


def nested(value, depth, make):
    for _ in range(depth):
        value = make([value])
    return value


def any_values():
    """Values of each sort that the document calls any value, new ones at each call."""
    single = [
        0, 1, -1, 2, 10 ** 40, -10 ** 40, True, False, None, "", " ", "a", "b", "abcde", "all", "at", "least", "more", "even",
        "0", "1", "nobody", "1 a", "+ a", "least + a", "say", "Stop", "word", "a\n", "parts",
        A, A & B, Group.nothing(), Crowd(), Crowd([(("a",), 2)]), Tally(), Tally([(1, A), (-2, B)]), Claim("least", Tally()),
        Claim.some(A), InvalidName("a"), Let("a", B), If(Claim.some(A), [Stop()]), While(Claim.some(A), []), Say("a"), Stop(),
        Program(), Program([Let("a", B)]), run(Program([Let("a", B)]), Crowd()), greatest(Tally(), Tally()),
    ]
    several = [make(rows) for make in (list, tuple) for rows in [
        [], [0], [1, 2], ["a"], ["a", "a"], ["a", "b"], [A], [1, A], [A, 1], [True, A], [(1, A)], [(True, A)], [[1, A]],
        [("a",), 1], [("a",), True], [("a",), -1], [("a", "a"), 1], ["a", 1], [[], 0], [None, None], [(("a",), 1)],
        [Claim.some(A)], [Claim.some(A), 1], [None], [[]], [()], [1, 2, 3], [(1, A), (1, "a")], [(1, A, B)],
        [Stop()], [Stop(), 1], [[Stop()]], [Program()], ["bar", (1,)], ["same", ()],
    ]]
    deep = [nested(value, 8, make) for make in (list, tuple) for value in (0, "a", A, None)]
    return single + several + deep


def is_a_name(value):
    barred = "all none at if else end say stop".split()
    return type(value) is str and re.fullmatch("[a-z]{1,4}", value) is not None and value not in barred


class ClaimRecipe:
    """A claim told by its word and a list of pairs (number, recipe of a group)."""

    def __init__(self, word, terms):
        self.word = word
        self.terms = terms
        self.known = {}

    def worded(self, word):
        return ClaimRecipe(word, self.terms)

    def claim(self):
        """The claim, the same object each time: as it never changes, no call may spoil it."""
        if "claim" not in self.known:
            self.known["claim"] = Claim(self.word, Tally([(number, group_of(recipe)) for number, recipe in self.terms]))
        return self.known["claim"]

    def tally(self):
        return self.claim().tally

    def names(self):
        return set().union(*[names_of(recipe) for _, recipe in self.terms])

    def weight(self, kind):
        if kind not in self.known:
            self.known[kind] = sum(number for number, recipe in self.terms if has(recipe, kind))
        return self.known[kind]

    def value(self, parts):
        return sum(self.weight(kind) * many for kind, many in parts)

    def text(self):
        words = [self.word]
        for number, recipe in self.terms:
            words.append("-" if number < 0 else "+")
            words.extend([str(abs(number))] if abs(number) != 1 else [])
            words.append(text_of(recipe))
        return " ".join(words if self.terms else words + ["0"])


class ClaimGiven(ClaimRecipe):
    """A claim that is there already."""

    def __init__(self, claim):
        super().__init__(claim.word, [(number, read(str(group))) for number, group in claim.tally.terms])
        self.known["claim"] = claim


class ClaimText(ClaimGiven):
    """A claim told by its text."""

    def __init__(self, text):
        super().__init__(Claim.read(text))


def is_so(word, value):
    return {"least": value >= 0, "more": value > 0, "even": value == 0}[word]


def made_claims(seed, many, names="abc", most=5, numbers=4, words=("least", "least", "more", "even")):
    """So many lists of at most so many claims, the same ones in each run."""
    source = random.Random(seed)
    return [
        [made_claim(source, names, numbers, words) for _ in range(source.randrange(most + 1))] for _ in range(many)
    ]


def made_claim(source, names, numbers, words):
    terms = [
        (source.randint(-numbers, numbers), made_recipe(source, source.randrange(3), names))
        for _ in range(source.choice([0, 1, 2, 2, 3, 3]))
    ]
    return ClaimRecipe(source.choice(words), terms)


def kinds_of(recipes):
    """All kinds of the names in claims, in the order of `kinds`, as ascending tuples."""
    return kinds_over(set().union(*[recipe.names() for recipe in recipes]))


def kinds_over(names):
    names = sorted(names)
    return [
        tuple(name for name, digit in zip(names, digits[::-1]) if digit)
        for digits in itertools.product((0, 1), repeat=len(names))
    ]


def can_be_kept(words, rows):
    """Whether numbers from 0 on keep claims with these words and weights: amounts are eliminated one by one.

    Each of `demands` is a pair: weights, and whether their sum has to be above 0, not only at least 0. Kinds with the
    same weights count as one.
    """
    columns = sorted(set(zip(*rows)))
    many = len(columns)
    rows = list(zip(*columns)) if columns else [() for _ in rows]
    demands = set()
    for word, row in zip(words, rows):
        demands.add((tuple(row), word == "more"))
        if word == "even":
            demands.add((tuple(-weight for weight in row), False))
    left = set(range(many))
    while left and demands:
        kind = min(left, key=lambda kind: pairs_at(demands, kind))
        left.discard(kind)
        demands = eliminated(demands, kind)
        if any(strict and not any(row) for row, strict in demands):
            return False
    return not any(strict for _, strict in demands)


def pairs_at(demands, kind):
    return len([1 for row, _ in demands if row[kind] > 0]) * len([1 for row, _ in demands if row[kind] < 0])


def eliminated(demands, kind):
    many = len(next(iter(demands))[0])
    demands = demands | {(tuple(int(other == kind) for other in range(many)), False)}
    made = {lessened(row, strict) for row, strict in demands if row[kind] == 0}
    for (upper, one), (lower, other) in itertools.product(
        [demand for demand in demands if demand[0][kind] > 0], [demand for demand in demands if demand[0][kind] < 0]
    ):
        row = [-lower[kind] * x + upper[kind] * y for x, y in zip(upper, lower)]
        made.add(lessened(row, one or other))
    # As no amount is below 0, the others say nothing more.
    return {(row, strict) for row, strict in made if strict or min(row) < 0}


def lessened(row, strict):
    common = math.gcd(*row) or 1
    return tuple(weight // common for weight in row), strict


def keep(recipes, among=None):
    """Whether a crowd with members of some kinds only (`None`: all kinds of the names) keeps claims."""
    among = kinds_of(recipes) if among is None else among
    return can_be_kept([recipe.word for recipe in recipes], [[recipe.weight(kind) for kind in among] for recipe in recipes])


def hold_together(recipes):
    """Whether a crowd keeps claims: what the package answers, once a crowd or a paper has shown it."""
    claims = [recipe.claim() for recipe in recipes]
    crowd = example(claims)
    if crowd is not None:
        if not all(is_so(recipe.word, recipe.value(crowd.parts)) for recipe in recipes):
            raise AssertionError(f"{crowd} does not keep the claims")
        return True
    shown = paper(claims)
    if not is_right_paper([recipe.word for recipe in recipes], rows_over(recipes), shown):
        raise AssertionError(f"{shown} is no right paper")
    return False


def rows_over(recipes):
    kinds = kinds_of(recipes)
    return [[recipe.weight(kind) for kind in kinds] for recipe in recipes]


def is_right_paper(words, rows, value):
    """What the document says of a right paper for claims with these words and weights, worked out by sums."""
    if type(value) is not tuple or len(value) != len(words) or any(type(weight) is not int for weight in value):
        return False
    if any(weight < 0 for weight, word in zip(value, words) if word != "even"):
        return False
    if not any(weight > 0 for weight, word in zip(value, words) if word == "more"):
        return False
    return all(sum(weight * number for weight, number in zip(value, column)) <= 0 for column in zip(*rows))
