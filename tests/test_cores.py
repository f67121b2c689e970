"""[21]: cores, and claims that follow from others."""

import itertools
import random
import unittest

from mostcrowds.claims import Claim
from mostcrowds.cores import core, cores, needless, same_claims, thinned
from mostcrowds.deciding import follows, possible

from tests.values import A, B, C, ClaimText, made_claim, made_claims

WRITTEN = [
    [], ["least 0"], ["more 0"], ["even 0"], ["more 0", "more 0"], ["more + a", "more 0", "even + a"], ["least 0", "even + none", "least + a - a"],
    ["more + a", "more - a"], ["more + a", "more + a"], ["more + a", "more + a", "more - a", "more - a"], ["more + a", "even + a", "even - 2 a"],
    ["more + a - b", "more + b - c", "more + c - a"], ["more + a - b", "more + b - c", "more + c - a", "more + b - a", "more + c - b"],
    ["least + a - b", "least + b - c", "least + a - c", "least + b - a"], ["more + a", "more + b", "more + | a b", "more + & a b"],
    ["even + - a b", "even + - b c", "even + - a c", "more + - a c", "more + a"], ["even + a - b", "least + a - b", "least + b - a", "more + a"],
    ["least + a", "least + b", "more + all", "least + all"], ["more + & a b", "more + a", "more + b", "least - a - b"],
    ["more + 2 a - b", "more + 2 b - a", "more - a - b", "least - a", "least - b", "more + a"], ["even + a", "even + b", "even + | a b", "more + ^ a b"],
    ["more + & a b", "more + & a b", "even + | a b", "even + | a b", "even + a"], ["more - all", "more + all", "least - all"],
]
MADE = (
    [[ClaimText(text) for text in texts] for texts in WRITTEN]
    + made_claims(90, 60, "abc", 6, 3, ("least", "more", "more", "even"))
    + made_claims(91, 60, "ab", 6, 2, ("least", "more", "even"))
    + made_claims(92, 40, "a", 6, 2, ("least", "more", "more", "even"))
)


def doubled(seed, recipes):
    """The claims, some of them twice, or once more with double weights, in another order."""
    source = random.Random(seed)
    made = list(recipes)
    for recipe in recipes[:2]:
        made.insert(source.randrange(len(made) + 1), ClaimText(f"{recipe.word} {recipe.tally() * source.choice([1, 2])}"))
    return made[:6]


MADE += [doubled(seed, recipes) for seed, recipes in enumerate(MADE) if recipes][::2]


def as_claims(recipes, make=list):
    return make([recipe.claim() for recipe in recipes])


def picked(claims, numbers):
    return [claims[number] for number in numbers]


class Cores(unittest.TestCase):
    def least_core(self, claims):
        """The claims are gone through in order, as the document says."""
        if possible(claims):
            return None
        left = list(range(len(claims)))
        for number in range(len(claims)):
            others = [other for other in left if other != number]
            if not possible(picked(claims, others)):
                left = others
        return tuple(left)

    def all_cores(self, claims):
        found = []
        for many in range(len(claims) + 1):
            for numbers in itertools.combinations(range(len(claims)), many):
                if not possible(picked(claims, numbers)) and all(
                    possible(picked(claims, numbers[:at] + numbers[at + 1:])) for at in range(many)
                ):
                    found.append(numbers)
        return tuple(found)

    def test_core(self):
        told = []
        for recipes in MADE:
            for make in (list, tuple):
                claims = as_claims(recipes, make)
                shown = core(claims)
                self.assertEqual(shown, self.least_core(claims), [recipe.text() for recipe in recipes])
            told.append(shown)
            if shown is not None:
                self.assertIs(type(shown), tuple)
                self.assertEqual(shown, tuple(sorted(set(shown))))
                self.assertFalse(possible(picked(claims, shown)))
                for number in shown:
                    self.assertTrue(possible(picked(claims, [other for other in shown if other != number])))
                self.assertIn(shown, cores(claims))
        self.assertGreater(told.count(None), 30)
        self.assertGreaterEqual(len({len(shown) for shown in told if shown is not None}), 3)
        self.assertGreater(len([shown for shown in told if shown and shown[0] > 0]), 20)

    def test_cores(self):
        many = set()
        for recipes in MADE:
            for make in (list, tuple):
                claims = as_claims(recipes, make)
                shown = cores(claims)
                self.assertEqual(shown, self.all_cores(claims), [recipe.text() for recipe in recipes])
            self.assertIs(type(shown), tuple)
            self.assertTrue(all(type(numbers) is tuple for numbers in shown))
            self.assertEqual(list(shown), sorted(shown, key=lambda numbers: (len(numbers), numbers)))
            many.add(len(shown))
        self.assertLessEqual({0, 1, 2, 3}, many)

    def test_told_ones(self):
        for texts, least, every in [
            ([], None, ()), (["more + a"], None, ()), (["more 0"], (0,), ((0,),)), (["more 0", "more 0"], (1,), ((0,), (1,))),
            (["more + a", "more 0", "even + a"], (1,), ((1,), (0, 2))),
            (["more + a", "more + a", "more - a", "more - a"], (3,), ((2,), (3,))),
            (["more + a", "more + a", "even + a", "even - a"], (1, 3), ((0, 2), (0, 3), (1, 2), (1, 3))),
            (["more + a - b", "more + b - c", "more + c - a"], (0, 1, 2), ((0, 1, 2),)),
            (["more + a - b", "more + b - c", "more + c - a", "more + b - a", "more + c - b"], (1, 4), ((0, 3), (1, 4), (0, 1, 2))),
        ]:
            claims = [Claim.read(text) for text in texts]
            self.assertEqual(core(claims), least, texts)
            self.assertEqual(cores(claims), every, texts)

    def test_by_the_names_of_the_parameters(self):
        claims = [Claim.read("more 0")]
        self.assertEqual((core(claims=claims), cores(claims=claims), needless(claims=claims), thinned(claims=[])), ((0,), ((0,),), (), ()))
        self.assertIs(same_claims(others=[], claims=claims), False)


class Needless(unittest.TestCase):
    def test_needless(self):
        told = []
        for recipes in MADE:
            for make in (list, tuple):
                claims = as_claims(recipes, make)
                expected = tuple(
                    number for number in range(len(claims))
                    if follows(picked(claims, [other for other in range(len(claims)) if other != number]), claims[number])
                )
                shown = needless(claims)
                self.assertEqual(shown, expected, [recipe.text() for recipe in recipes])
                self.assertIs(type(shown), tuple)
            told.append(len(shown))
        self.assertLessEqual({0, 1, 2, 3, 4}, set(told))

    def test_thinned(self):
        told = []
        for recipes in MADE:
            for make in (list, tuple):
                claims = as_claims(recipes, make)
                left = list(range(len(claims)))
                for number in range(len(claims)):
                    others = [other for other in left if other != number]
                    if follows(picked(claims, others), claims[number]):
                        left = others
                shown = thinned(claims)
                self.assertIs(type(shown), tuple)
                self.assertEqual(len(shown), len(left))
                for claim, number in zip(shown, left):
                    self.assertIs(claim, claims[number])
                self.assertIs(same_claims(claims, shown), True)
                self.assertIs(possible(shown), possible(claims))
            told.append(len(claims) - len(shown))
        self.assertLessEqual({0, 1, 2, 3, 4}, set(told))

    def test_told_ones(self):
        for texts, numbers, left in [
            ([], (), []), (["least 0"], (0,), []), (["more 0"], (), ["more 0"]), (["more 0", "more 0"], (0, 1), ["more 0"]),
            (["more + a", "more + a"], (0, 1), ["more + a"]), (["more + a", "more + 2 a"], (0, 1), ["more + 2 a"]),
            (["more + a", "least + b", "more + & a b"], (0, 1), ["more + & a b"]),
            (["least + a - b", "least + b - c", "least + a - c"], (2,), ["least + a - b", "least + b - c"]),
            (["even + a - b", "least + a - b", "least + b - a"], (0, 1, 2), ["least + a - b", "least + b - a"]),
            (["least + a - b", "even + a - b", "least + b - a"], (0, 1, 2), ["even + a - b"]),
            (["least + a - b", "least + b - a", "even + a - b"], (0, 1, 2), ["even + a - b"]),
            (["more + a", "more - a", "more + b"], (0, 2), ["more - a"]), (["least + a", "even + none", "least - - a a"], (0, 1, 2), []),
            (["even + - a b", "even + - b a"], (), ["even + - a b", "even + - b a"]),
        ]:
            claims = [Claim.read(text) for text in texts]
            self.assertEqual(needless(claims), numbers, texts)
            self.assertEqual([str(claim) for claim in thinned(claims)], left, texts)


class SameClaims(unittest.TestCase):
    def test_against_what_follows(self):
        told = []
        for recipes, others in zip(MADE, MADE[1:] + MADE[:1]):
            for lists in [(recipes, others), (recipes, recipes[::-1]), (recipes, recipes[1:]), (recipes, recipes + others[:1])]:
                first, second = as_claims(lists[0]), as_claims(lists[1], tuple)
                expected = all(follows(first, claim) for claim in second) and all(follows(second, claim) for claim in first)
                self.assertIs(same_claims(first, second), expected)
                self.assertIs(same_claims(second, first), expected)
                told.append(expected)
        self.assertGreater(told.count(True), 100)
        self.assertGreater(told.count(False), 100)

    def test_the_same_list(self):
        for recipes in MADE:
            claims = as_claims(recipes)
            self.assertIs(same_claims(claims, claims), True)
            self.assertIs(same_claims(claims, tuple(claims + claims)), True)

    def test_told_ones(self):
        for texts, others, told in [
            ([], [], True), ([], ["least 0"], True), ([], ["least + a"], True), ([], ["more 0"], False), ([], ["more + all"], False),
            (["more 0"], ["more + a", "more - a"], True), (["more 0"], ["even + all", "more + b"], True), (["even + a"], ["even - 3 a"], True),
            (["even + a"], ["least - a"], True), (["least + a - b", "least + b - a"], ["even + a - b"], True),
            (["least + a - b"], ["even + a - b"], False), (["even + a - b"], ["least + a - b"], False), (["more + a"], ["more + b"], False),
            (["more + a", "more + b"], ["more + b"], False), (["more + b"], ["more + b", "more + a"], False),
            (["even + - a b", "even + - b a"], ["even + ^ a b"], True), (["more + a", "more + a"], ["more + 5 a"], True),
        ]:
            first, second = [Claim.read(text) for text in texts], [Claim.read(text) for text in others]
            self.assertIs(same_claims(first, second), told, (texts, others))
            self.assertIs(same_claims(tuple(second), first), told, (texts, others))


class Unchanged(unittest.TestCase):
    def test_what_was_passed_and_the_same_call_again(self):
        before = {}
        source = random.Random(93)
        other = [made_claim(source, "abc", 3, ("least", "more")).claim() for _ in range(2)]
        uses = [core, cores, needless, thinned, lambda claims: same_claims(claims, other)]
        for again in range(2):
            for at, recipes in list(enumerate(MADE))[::3 if again == 0 else -3]:
                claims = as_claims(recipes)
                for number, use in enumerate(uses):
                    told = use(claims)
                    self.assertEqual(before.setdefault((at, number), told), told)
                self.assertEqual(len(claims), len(recipes))
                self.assertTrue(all(claim is recipe.claim() for claim, recipe in zip(claims, recipes)))
                self.assertEqual([str(claim) for claim in claims], [recipe.text() for recipe in recipes])

    def test_names_that_only_some_claims_have(self):
        claims = [Claim.some(A), Claim.inside(A, B), Claim.some(A & B), Claim.some(C)]
        self.assertEqual((needless(claims), [str(claim) for claim in thinned(claims)]), (
            (0, 2), ["even + - a b", "more + & a b", "more + c"]))


if __name__ == "__main__":
    unittest.main()
