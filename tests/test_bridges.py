"""[22]: bridges, and what is none."""

import random
import unittest

from mostcrowds.bridges import bridge, bridge_holds
from mostcrowds.claims import Claim
from mostcrowds.groups import Group
from mostcrowds.tallies import Tally

from tests.values import A, B, C, ClaimGiven, ClaimRecipe, ClaimText, any_values, hold_together, made_claim, made_claims

WORDS = ("least", "more", "even")

# Each pair of lists of claims: with names shared and not, empty, possible or not, together and by itself.
WRITTEN = [
    ([], []), ([], ["more 0"]), (["more 0"], []), (["more + a"], []), ([], ["more + a"]), (["more + a"], ["more + b"]),
    (["more + a"], ["even + a"]), (["even + a"], ["more + a"]), (["more + a"], ["least - a"]), (["least + a - b"], ["more + b - a"]),
    (["more + a", "even + a"], ["more + b"]), (["more + b"], ["more + a", "even + a"]), (["more + a", "even + a"], ["more + b", "even + b"]),
    (["more + all"], ["even + all"]), (["more + a"], ["even + all"]), (["more + & a b"], ["even + & b c"]), (["more + & a b"], ["even + b"]),
    (["least + b - a", "more + a - c"], ["even + - b c"]), (["least + a - b", "least + b - c"], ["more + c - a"]),
    (["even + - a b", "even + - b c"], ["more + - a c"]), (["even + a - b"], ["more + a - b"]), (["even + b - a"], ["more + a - b"]),
    (["even + 2 a - 3 b", "more + a"], ["even + b"]), (["even + - a b", "more + - a c"], ["even + - b c"]), (["least + 3 & a b - 2 a", "more + a"], ["even + b"]),
    (["least + 3 & a b - 2 a", "least + 2 & a c - a"], ["more + b - 1000 c", "even + b"]), (["even + a", "even + b"], ["more + | a b"]),
    (["more + a - b", "more + b - c"], ["least + c - a", "even + d"]), (["least + a - 2 all"], ["more + all"]), (["least + a - 2 all"], ["more + d"]),
    (["least + & a b - c", "more + c"], ["least - b", "more + d - e"]), (["more + ^ a b"], ["even + a - b"]), (["more + ^ a b"], ["even + ^ a b"]),
]


def made_pairs():
    pairs = [([ClaimText(text) for text in first], [ClaimText(text) for text in second]) for first, second in WRITTEN]
    for seed, (mine, theirs) in enumerate([("abc", "abc"), ("ab", "bc"), ("abc", "cde"), ("abc", "bcd"), ("ab", "cd"), ("a", "ab"), ("abc", "a")]):
        words = ("least", "more", "more", "even")
        pairs += list(zip(made_claims(200 + seed, 30, mine, 3, 3, words), made_claims(300 + seed, 30, theirs, 3, 3, words)))
    source = random.Random(210)
    for _ in range(60):
        # A claim that follows from the first list, as a sum of its claims, stands against the second one.
        first = [made_claim(source, "abc", 3, ("least", "more")) for _ in range(2)]
        against = [ClaimRecipe("least", [(-number, recipe) for number, recipe in first[0].terms + first[1].terms])]
        pairs.append((first, against + [made_claim(source, "abc", 3, WORDS)]))
    return pairs


PAIRS = made_pairs()


def as_claims(recipes, make=list):
    return make([recipe.claim() for recipe in recipes])


def names_of(recipes):
    return set().union(*[recipe.names() for recipe in recipes])


def is_bridge(first, second, claim):
    """What the document says of a bridge; each part of it has been shown by a crowd or a paper."""
    if not set(claim.names) <= names_of(first) & names_of(second):
        return False
    ways_out = [Claim("least", claim.tally), Claim("least", -claim.tally)] if claim.word == "even" else [claim]
    if any(hold_together([*first, ClaimGiven(one.contrary())]) for one in ways_out):
        return False
    return not hold_together([*second, ClaimGiven(claim)])


class Bridges(unittest.TestCase):
    def test_there_is_one_exactly_if_both_are_not_possible_together(self):
        many = {True: 0, False: 0}
        for first, second in PAIRS:
            told = bridge(as_claims(first), as_claims(second, tuple))
            possible = hold_together([*first, *second])
            many[possible] += 1
            self.assertEqual(told is None, possible, [[recipe.text() for recipe in part] for part in (first, second)])
            if told is not None:
                self.assertIs(type(told), Claim)
                self.assertIn(told.word, ("least", "more"))
                self.assertTrue(is_bridge(first, second, told), str(told))
                self.assertIs(bridge_holds(as_claims(first, tuple), as_claims(second), told), True)
        self.assertGreater(min(many.values()), 60)

    def test_words_and_names_of_those_told(self):
        told = [bridge(as_claims(first), as_claims(second)) for first, second in PAIRS]
        found = [claim for claim in told if claim is not None]
        self.assertEqual({claim.word for claim in found}, {"least", "more"})
        self.assertLessEqual({0, 1, 2, 3}, {len(claim.names) for claim in found})

    def test_other_claims_are_bridges_or_not(self):
        source = random.Random(220)
        many = {True: 0, False: 0}
        for first, second in PAIRS[::2]:
            claims, others = as_claims(first), as_claims(second)
            told = bridge(claims, others)
            shared = "".join(sorted(names_of(first) & names_of(second)))
            made = [made_claim(source, shared or "a", 2, WORDS).claim() for _ in range(6)]
            if told is not None:
                made += [Claim(word, told.tally * number) for word in WORDS for number in (1, 3, -1)]
                made += [Claim(told.word, told.tally + Tally([(number, group)])) for number in (0, 1, -1) for group in (A, Group.named("z"), Group.every())]
            for claim in made:
                is_one = is_bridge(first, second, claim)
                self.assertIs(bridge_holds(claims, others, claim), is_one, (str(claim), first, second))
                many[is_one] += 1
        self.assertGreater(min(many.values()), 80)

    def test_told_ones(self):
        first, second = [Claim.share(A, B, 1, 1), Claim.more_in(A, C)], [Claim.inside(B, C)]
        for text, is_one in [
            ("more + - b c", True), ("more + 3 b - 3 & b c", True), ("more + b - c", True), ("least + b - c", False), ("more + b", False),
            ("more + - b c + 0 a", False), ("more + - b c + 0 z", False), ("more + - b c + z - z", False), ("more + - a c", False), ("even + b", False),
        ]:
            self.assertIs(bridge_holds(first, second, Claim.read(text)), is_one, text)
        evens = [Claim.read("even + a - b"), Claim.read("even + c")], [Claim.read("more + a - b"), Claim.read("more + a")]
        for text, is_one in [("even + a - b", True), ("even + 2 b - 2 a", True), ("least + b - a", True), ("least + a - b", False), ("even + a", False), ("even + c", False)]:
            self.assertIs(bridge_holds(*evens, Claim.read(text)), is_one, text)
        for text, is_one in [("least 0", False), ("more 0", True), ("more + none", True), ("more + a - a", False), ("even + all", False), ("more - all", True)]:
            self.assertIs(bridge_holds([Claim.read("more 0")], [Claim.read("least 0")], Claim.read(text)), is_one, text)
        self.assertIs(bridge_holds([Claim.some(A)], [Claim.some(A)], Claim.some(A)), False)

    def test_values_of_all_sorts(self):
        for claims, others in [([], []), ([Claim.some(A)], [Claim.read("even + a")]), ([Claim.read("more 0")], [])]:
            for value in any_values():
                told = bridge_holds(claims, others, value)
                self.assertIs(type(told), bool)
                if not isinstance(value, Claim):
                    self.assertFalse(told, value)

    def test_a_value_with_many_names_is_answered_at_once(self):
        long = Claim("more", Tally([(1, Group.named(x + y)) for x in "abcdef" for y in "abcdef"]))
        self.assertIs(bridge_holds([Claim.some(A)], [Claim.read("even + a")], long), False)

    def test_by_the_names_of_the_parameters(self):
        claims, others = [Claim.some(A)], [Claim.read("even + a")]
        self.assertEqual(bridge(others=others, claims=claims), Claim.some(A))
        self.assertIs(bridge_holds(value=Claim.some(A), others=others, claims=claims), True)

    def test_what_was_passed_is_left_as_it_was(self):
        for first, second in PAIRS[::9]:
            claims, others = as_claims(first), as_claims(second)
            texts = [[str(claim) for claim in part] for part in (claims, others)]
            one, other = bridge(claims, others), bridge(claims, others)
            self.assertEqual([[str(claim) for claim in part] for part in (claims, others)], texts)
            self.assertEqual(one, other)


if __name__ == "__main__":
    unittest.main()
