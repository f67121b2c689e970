"""[17]: papers, and what is none."""

import random
import unittest

from mostcrowds.claims import Claim
from mostcrowds.deciding import example, possible
from mostcrowds.papers import paper, paper_holds
from mostcrowds.tallies import Tally

from tests.recipes import made_recipe
from tests.values import (
    A, B, C, ClaimRecipe, ClaimText, any_values, is_right_paper, is_so, made_claims, rows_over,
)

WORDS = ("least", "more", "even")


def deep_recipe(source):
    """A recipe with signs nested up to eight deep and numbers up to 25."""
    recipe = made_recipe(source, 3, "abcde")
    for _ in range(5):
        sign = source.choice(["~", "&", "|", "-", "^", "at"])
        if sign == "~":
            recipe = ("~", recipe)
        elif sign == "at":
            parts = [recipe] + [source.choice("abcde") for _ in range(source.randrange(7))]
            recipe = ("at", source.choice([0, 1, 2, 3, 4, 25]), source.sample(parts, len(parts)))
        else:
            recipe = (sign, *source.sample([recipe, source.choice("abcde")], 2))
    return recipe


def deep_claims(seed, many):
    source = random.Random(seed)
    made = []
    for _ in range(many):
        recipes = []
        for _ in range(source.randrange(7)):
            terms = [(source.randint(-25, 25), deep_recipe(source)) for _ in range(source.randrange(1, 4))]
            recipes.append(ClaimRecipe(source.choice(WORDS), terms))
        made.append(recipes)
    return made


WRITTEN = [
    ["more 0"], ["more + none"], ["more - all"], ["more + a", "more - a"], ["even + all", "more + a"], ["more + a - b", "least + b - a"],
    ["even + a - b", "more + a - b"], ["even + b - a", "more + a - b"], ["even + - a b", "even + - b c", "more + - a c"],
    ["least + 3 & a b - 2 a", "least + 2 & a c - a", "more + a - 6 & & a b c"], ["more + 2 a - 3 b", "more + 2 b - 3 a"],
    ["even + 3 a - 7 b", "even + 5 b - 11 c", "more + a", "more - 15 a + 77 c"], ["least 0", "more 0", "even 0"],
    ["more + a", "more + b", "least - a - b"], ["even + a", "more + a", "more + 2 a"], [], ["least + a"], ["more + a"], ["even + all"],
]
MADE = (
    [[ClaimText(text) for text in texts] for texts in WRITTEN]
    + made_claims(70, 150, "abc", 6, 4, WORDS)
    + made_claims(71, 80, "ab", 6, 6, WORDS)
    + made_claims(72, 50, "abcde", 6, 25, ("least", "more", "more", "even"))
    + deep_claims(73, 60)
)


def as_claims(recipes, make=list):
    return make([recipe.claim() for recipe in recipes])


def is_right(recipes, value):
    return is_right_paper([recipe.word for recipe in recipes], rows_over(recipes), value)


def spoilt(value, source):
    """What comes out of a paper if it is changed a little: right or wrong, or no paper at all."""
    made = [list(value), value + (0,), value + (1,), (0,) + value, tuple(2 * weight for weight in value), (0,) * len(value)]
    made += [tuple(-weight for weight in value), value + value, (value,), [value], value[::-1], tuple(str(weight) for weight in value)]
    made += [tuple(bool(weight) for weight in value), (True,) * len(value), (1,) * len(value)]
    for at in range(len(value)):
        made += [value[:at] + (weight,) + value[at + 1:] for weight in (
            value[at] + 1, value[at] - 1, -value[at] - 1, 0, 10 ** 30, -10 ** 30, None, True, False, str(value[at]), (value[at],), [value[at]],
            A, Claim.some(A),
        )]
        made.append(value[:at] + value[at + 1:])
    for _ in range(5):
        made.append(tuple(source.randint(-3, 9) for _ in value))
    return made


class Papers(unittest.TestCase):
    def test_either_an_example_or_a_paper(self):
        told = []
        for recipes in MADE:
            for make in (list, tuple):
                claims = as_claims(recipes, make)
                crowd, shown = example(claims), paper(claims)
                self.assertNotEqual(crowd is None, shown is None)
                self.assertIs(possible(claims), shown is None)
                if shown is not None:
                    self.assertTrue(is_right(recipes, shown), (shown, [recipe.text() for recipe in recipes]))
                    self.assertIs(paper_holds(claims, shown), True)
                else:
                    self.assertTrue(all(is_so(recipe.word, recipe.value(crowd.parts)) for recipe in recipes))
            told.append(shown is None)
        self.assertGreater(told.count(True), 60)
        self.assertGreater(told.count(False), 60)

    def test_the_example_of_the_document(self):
        given = [Claim.share(A, B, 2, 3), Claim.share(A, C, 1, 2), Claim.share(A, B & C, 1, 6).contrary()]
        self.assertIs(paper_holds(given, (2, 3, 1)), True)
        self.assertIs(paper_holds(given, (1, 1, 1)), False)
        self.assertIs(paper_holds(given, paper(given)), True)

    def test_no_claims_at_all(self):
        self.assertEqual((paper([]), paper(())), (None, None))
        for value in any_values() + [(0,)]:
            self.assertIs(paper_holds([], value), False)

    def test_by_the_names_of_the_parameters(self):
        self.assertEqual(len(paper(claims=[Claim.read("more 0")])), 1)
        self.assertIs(paper_holds(value=(1,), claims=[Claim.read("more 0")]), True)


class Right(unittest.TestCase):
    def test_told_ones(self):
        for texts, value, told in [
            (["more 0"], (1,), True), (["more 0"], (5,), True), (["more 0"], (0,), False), (["more 0"], (-1,), False),
            (["more 0", "more 0"], (1, 0), True), (["more 0", "more 0"], (0, 1), True), (["more 0", "more 0"], (0, 0), False),
            (["more 0", "more 0"], (2, -1), False), (["more 0", "least 0"], (0, 1), False), (["more 0", "least 0"], (1, -1), False),
            (["more 0", "even 0"], (1, -1), True), (["more 0", "even 0"], (0, 1), False), (["even 0"], (1,), False), (["least 0"], (1,), False),
            (["more + a", "even + a"], (1, -1), True), (["more + a", "even + a"], (1, -2), True), (["more + a", "even + a"], (2, -1), False),
            (["more + a", "even + a"], (1, 1), False), (["more + a", "even - a"], (1, 1), True), (["more + a", "least - a"], (1, 1), True),
            (["more + a", "least - a"], (1, 2), True), (["more + a", "least - a"], (2, 1), False), (["more - all"], (3,), True),
            (["more + a - b", "more + b - a"], (1, 1), True), (["more + a - b", "more + b - a"], (1, 2), False),
            (["more + a - b", "more + b - a"], (2, 2), True), (["more + a - b", "more + b - a"], (2, 1), False),
            (["more - ~ a", "least - a"], (1, 1), True), (["more - ~ a", "least - a"], (1, 0), True), (["more + ~ a"], (1,), False),
        ]:
            self.assertIs(paper_holds([Claim.read(text) for text in texts], value), told, (texts, value))

    def test_papers_that_are_spoilt(self):
        source = random.Random(74)
        told = []
        for recipes in MADE:
            claims = as_claims(recipes)
            shown = paper(claims)
            if shown is None:
                shown = (1,) * len(claims)
            for value in [shown] + spoilt(shown, source):
                expected = is_right(recipes, value)
                self.assertIs(paper_holds(claims, value), expected, (value, [recipe.text() for recipe in recipes]))
                self.assertIs(paper_holds(tuple(claims), value), expected)
                told.append(expected)
        self.assertGreater(told.count(True), 300)
        self.assertGreater(told.count(False), 300)

    def test_all_weights_doubled_and_all_0(self):
        for recipes in MADE:
            claims = as_claims(recipes)
            shown = paper(claims)
            if shown is not None:
                self.assertIs(paper_holds(claims, tuple(2 * weight for weight in shown)), True)
                self.assertIs(paper_holds(claims, tuple(10 ** 40 * weight for weight in shown)), True)
                self.assertIs(paper_holds(claims, (0,) * len(shown)), False)
                self.assertIs(paper_holds(claims, list(shown)), False)

    def test_a_negative_weight_for_each_word(self):
        for word, told in [("least", False), ("more", False), ("even", True)]:
            claims = [Claim.some(A), Claim(word, Tally.of(A)), Claim.read("even - a")]
            self.assertIs(paper_holds(claims, (1, -1, 1)), told)
            self.assertIs(paper_holds(claims, (1, 0, 1)), True)

    def test_any_value(self):
        given = [Claim.some(A), Claim.some(A).contrary()]
        several = [[Claim.read("more 0")], given, [*given, Claim.inside(A, B)], [Claim.read("even + a"), Claim.some(A)]]
        for claims in several:
            recipes = [ClaimText(str(claim)) for claim in claims]
            for value in any_values() + [{}, {0: 1}, object(), 1.0, (1.0, 1.0), (1.0,), {1, 2}, range(2), b"ab"]:
                with self.subTest(value=value):
                    self.assertIs(paper_holds(claims, value), is_right(recipes, value))
            for value in any_values():
                for wrong in [(value,), (1, value), (value, 1), (1, value, 1), (1, 1, value), (value, value)]:
                    self.assertIs(paper_holds(claims, wrong), is_right(recipes, wrong))


class Unchanged(unittest.TestCase):
    def test_what_was_passed_and_the_same_call_again(self):
        before = {}
        for again in range(2):
            for at, recipes in list(enumerate(MADE))[::5 if again == 0 else -5][:60]:
                claims = as_claims(recipes)
                told = paper(claims)
                self.assertEqual(before.setdefault(at, told), told)
                self.assertEqual([str(claim) for claim in claims], [recipe.text() for recipe in recipes])
                value = [1] * len(claims)
                paper_holds(claims, value)
                self.assertEqual(value, [1] * len(claims))


if __name__ == "__main__":
    unittest.main()
