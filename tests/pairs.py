"""Pairs of programs, and what the document says of them, worked out way by way.

A *case* is a list of claims that hold together exactly if there is such a crowd; the claims are `ClaimRecipe`s.
"""

import itertools
import random

from tests.programs import (
    each_row, kind_recipe, kinds_in_order, made_parts, made_programs, made_test, names_in, plain_ways, ran,
)
from tests.recipes import made_recipe
from tests.values import ClaimRecipe, ClaimText, can_be_kept, hold_together, is_so

WORDS = ("least", "more", "even")


class Pair:
    """Two programs, told as rows, and the claims given."""

    def __init__(self, rows, others, given):
        self.rows = rows
        self.others = others
        self.given = given
        self.ways = plain_ways(rows)
        self.other_ways = plain_ways(others)
        self.program_names = sorted(names_in(rows) | names_in(others))
        self.names = sorted(set(self.program_names).union(*[recipe.names() for recipe in given]))
        self.kinds = kinds_in_order(self.names)

    def claims(self):
        return [recipe.claim() for recipe in self.given]

    def differing(self, way, other):
        """For each name of the programs the kinds that it holds on one of both ways only, one after another."""
        return [
            kind for name in self.program_names for kind in self.kinds if way.holds(name, kind) != other.holds(name, kind)
        ]

    def somebody(self, kinds):
        """The claim that there is a member of one of these kinds."""
        return ClaimRecipe("more", [(1, kind_recipe(kind, self.names)) for kind in kinds])

    def cases(self):
        """Those which a crowd parts that keeps one of them."""
        for way, other in itertools.product(self.ways, self.other_ways):
            both = [*self.given, *way.claims(), *other.claims()]
            if looks_alike(way, other):
                yield [*both, self.somebody(sorted(set(self.differing(way, other))))]
            else:
                yield both


def looks_alike(way, other):
    return (way.end, way.words) == (other.end, other.words)


def ends_alike(rows, others, parts):
    """Whether two programs end alike on a crowd, by their runs."""
    one, other = ran(rows, parts), ran(others, parts)
    if (one.end, one.words) != (other.end, other.words):
        return False
    names = names_in(rows) | names_in(others)
    return one.end == "never" or all(
        (name in (member if name in names_in(rows) else kind)) == (name in (against if name in names_in(others) else kind))
        for name in names for (kind, _), member, against in zip(parts, one.members, other.members)
    )


def is_possible_with(cases, kinds, many):
    """Whether a crowd with members of so many of these kinds, at most, keeps one of the cases."""
    told = [([recipe.word for recipe in case], [[recipe.weight(kind) for kind in kinds] for recipe in case]) for case in cases]
    return any(
        can_be_kept(words, [[row[at] for at in chosen] for row in rows])
        for chosen in itertools.combinations(range(len(kinds)), many) for words, rows in told
    )


def some_hold_together(cases):
    return any(hold_together(case) for case in cases)


def made_given(source, names):
    """Claims given: none, some, some about a name that no program has, some that are not possible."""
    kind = source.randrange(6)
    if kind < 2:
        return []
    if kind < 5:
        return [made_test(source, names if kind < 4 else "bc", 2) for _ in range(source.randint(1, 3))]
    return [ClaimText("more + a"), ClaimText("even + | a b")]


def changed(source, rows, names):
    """Rows that are much like others, and perhaps do the same."""
    kind = source.randrange(7)
    if kind == 0:
        return rows
    if kind == 1:
        # A choice both of whose sides are the same.
        return [("if", made_test(source, names, 2), rows, rows)]
    if kind == 2:
        return [*rows, ("let", source.choice(names), made_recipe(source, 1, names))]
    if kind == 3:
        name = source.choice(names)
        return [("let", name, name), *rows]
    if kind == 4:
        return [("while", ClaimRecipe("more", []), [("stop",)]), *rows]
    if kind == 5:
        return [row for row in rows if row[0] != "say"]
    return [spoilt(source, row, names) for row in rows]


def spoilt(source, row, names):
    if row[0] == "let" and source.random() < 0.5:
        return ("let", row[1], made_recipe(source, 1, names))
    if row[0] == "if":
        return ("if", row[1].worded(source.choice(WORDS)), row[2], row[3])
    return row


def fits(rows, others):
    """Whether two programs are within the limits, and take the tests not too long."""
    if len(list(each_row(rows))) > 12 or len(list(each_row(others))) > 12:
        return False
    return len(plain_ways(rows)) * len(plain_ways(others)) <= 40


def made_pairs(seed, many, names="abc", given_names="abc"):
    source = random.Random(seed)
    pairs = []
    for rows in made_programs(seed, 3 * many, names, 6, 3):
        if len(plain_ways(rows)) > 12:
            continue
        others = changed(source, rows, names)
        if fits(rows, others) and len(pairs) < many:
            pairs.append(Pair(rows, others, made_given(source, given_names)))
    return pairs


def kept_parts(source, pair, most=4):
    """Parts of a crowd that keeps the claims given, or `None`."""
    for _ in range(10):
        parts = made_parts(source, pair.names, most)
        if all(is_so(recipe.word, recipe.value(parts)) for recipe in pair.given):
            return parts
    return None
