"""[18], [19] and [20]: the greatest and the least share, papers for it, and crowds near to it."""

import itertools
import math
import operator
import random
import unittest

from mostcrowds.claims import Claim
from mostcrowds.crowds import Crowd
from mostcrowds.deciding import example
from mostcrowds.papers import paper, paper_holds
from mostcrowds.shares import Bound, greatest, least, nearing, share_paper, share_paper_holds
from mostcrowds.tallies import Tally

from tests.test_papers import spoilt
from tests.values import A, B, C, ClaimRecipe, ClaimText, any_values, is_so, kinds_over, made_claim

WORDS = ("none", "endless", "reached", "neared")

# Top, bottom, claims; the greatest share and the least one.
TOLD = [
    ("+ a", "+ b", [], "endless", "reached 0/1"),
    ("+ & a b", "+ a", [], "reached 1/1", "reached 0/1"),
    ("+ & a b", "+ a", ["more + - a b"], "neared 1/1", "reached 0/1"),
    ("+ & a b", "+ a", ["more + - a b", "more + & a b"], "neared 1/1", "neared 0/1"),
    ("+ & & a b c", "+ a", ["least + 4 & a b - 3 a", "least + 4 & a c - 3 a"], "reached 1/1", "reached 1/2"),
    ("- & & a b c", "+ a", ["least + 4 & a b - 3 a", "least + 4 & a c - 3 a"], "reached -1/2", "reached -1/1"),
    ("- a - a", "+ a", ["more + b"], "reached -2/1", "reached -2/1"),
    ("- 2 a - b", "+ a", ["more + b", "even + & a b"], "neared -2/1", "endless"),
    ("0", "+ a", [], "reached 0/1", "reached 0/1"),
    ("0", "+ a", ["more + b"], "reached 0/1", "reached 0/1"),
    ("+ a", "0", [], "none", "none"),
    ("+ a", "+ none", ["more + b"], "none", "none"),
    ("+ a", "- b", [], "none", "none"),
    ("+ a", "+ a", ["even + a"], "none", "none"),
    ("+ a", "+ b", ["more + a", "more - a"], "none", "none"),
    ("+ a", "+ b", ["more 0"], "none", "none"),
    ("+ all", "+ a", ["even + ~ a"], "reached 1/1", "reached 1/1"),
    ("+ all", "+ a", ["even + - ~ a b", "least + 3 a - 5 b"], "reached 8/5", "reached 1/1"),
    ("+ a", "+ all", ["more + ~ a"], "neared 1/1", "reached 0/1"),
    ("+ a", "+ b", ["least + 3 b - 2 a", "least + 5 a - b"], "reached 3/2", "reached 1/5"),
    ("+ a", "+ b", ["more + 3 b - 2 a", "more + 5 a - b"], "neared 3/2", "neared 1/5"),
    ("+ a", "+ b", ["even + 6 a - 4 b"], "reached 2/3", "reached 2/3"),
    ("+ 6 a", "+ 4 b", ["even + a - b"], "reached 3/2", "reached 3/2"),
    ("+ a - b", "+ a + b", [], "reached 1/1", "reached -1/1"),
    ("+ a - b", "+ a + b", ["more + a", "more + b", "even + & a b"], "neared 1/1", "neared -1/1"),
    ("+ a", "+ b - a", [], "endless", "reached 0/1"),
    ("+ a", "+ b - a", ["least + b - 3 a"], "reached 1/2", "reached 0/1"),
    ("- b", "+ a", [], "reached 0/1", "endless"),
    ("+ a - b", "+ c", [], "endless", "endless"),
    ("+ 999999 a", "+ 1000000 a", [], "reached 999999/1000000", "reached 999999/1000000"),
    ("+ all", "+ all", [], "reached 1/1", "reached 1/1"),
    ("+ & a b", "+ | a b", ["least + 2 b - a", "more + a - b"], "neared 1/1", "reached 0/1"),
]


def made_questions():
    """Tops, bottoms and claims, told as recipes."""
    source = random.Random(80)
    made = []
    for names, many, numbers in [("ab", 40, 4), ("abc", 60, 4), ("abcd", 20, 9), ("abc", 20, 10 ** 6)]:
        for _ in range(many):
            recipes = [made_claim(source, names, numbers, ("least", "more", "even")) for _ in range(source.randrange(6))]
            top, bottom = [made_claim(source, names, numbers, ("even",)) for _ in range(2)]
            if source.random() < 0.8:
                crowd = [(kind, source.randrange(3)) for kind in kinds_over(names)]
                recipes = [fitted(recipe, crowd, source) for recipe in recipes]
                bottom = fitted(bottom, crowd, source)
            made.append((top, bottom, recipes))
    return made


def fitted(recipe, parts, source):
    """A claim with the same weights, or all turned, that holds in a crowd."""
    value = recipe.value(parts)
    terms = recipe.terms if value >= 0 else [(-number, group) for number, group in recipe.terms]
    return ClaimRecipe(source.choice(("least", "even") if value == 0 else ("least", "more")), terms)


QUESTIONS = [
    (ClaimText(f"even {top}"), ClaimText(f"even {bottom}"), [ClaimText(text) for text in texts]) for top, bottom, texts, _, _ in TOLD
] + made_questions()


def passed(question, make=list):
    top, bottom, recipes = question
    return top.tally(), bottom.tally(), make([recipe.claim() for recipe in recipes])


def all_kinds(question):
    top, bottom, recipes = question
    return kinds_over(set().union(*[recipe.names() for recipe in [top, bottom, *recipes]]))


def excess(question, value):
    """A tally that is above 0 exactly where the share is greater than a fraction (and `bottom` is above 0)."""
    return question[0].tally() * value[1] - question[1].tally() * value[0]


def is_right(question, value, shown):
    """What the document says of a paper for a fraction, worked out by sums over all kinds."""
    top, bottom, recipes = question
    if type(shown) is not tuple or len(shown) != len(recipes) + 2 or any(type(weight) is not int for weight in shown):
        return False
    *weights, w, z = shown
    if w < 0 or z <= 0 or any(weight < 0 for weight, recipe in zip(weights, recipes) if recipe.word != "even"):
        return False
    return all(
        z * (value[0] * bottom.weight(kind) - value[1] * top.weight(kind))
        >= w * bottom.weight(kind) + sum(weight * recipe.weight(kind) for weight, recipe in zip(weights, recipes))
        for kind in all_kinds(question)
    )


class Shared(unittest.TestCase):
    def assert_keeps(self, crowd, question):
        """That a crowd keeps the claims and has a bottom above 0."""
        self.assertIs(type(crowd), Crowd)
        for recipe in question[2]:
            self.assertTrue(is_so(recipe.word, recipe.value(crowd.parts)), (str(crowd), recipe.text()))
        self.assertGreater(question[1].value(crowd.parts), 0)
        self.assertTrue(all(kind in all_kinds(question) for kind, _ in crowd.parts))

    def assert_relaxed(self, crowd, question):
        """That it keeps the claims, with `least` in the place of `more`, and has no bottom below 0."""
        for recipe in question[2]:
            word = "even" if recipe.word == "even" else "least"
            self.assertTrue(is_so(word, recipe.value(crowd.parts)), (str(crowd), recipe.text()))
        self.assertGreaterEqual(question[1].value(crowd.parts), 0)

    def over(self, crowd, question, value):
        """How much the share is above a fraction: above 0, 0 or below 0."""
        return value[1] * question[0].value(crowd.parts) - value[0] * question[1].value(crowd.parts)

    def assert_bound(self, bound, question):
        self.assertIs(type(bound), Bound)
        self.assertIn(bound.word, WORDS)
        claims = passed(question)[2]
        some = Claim("more", question[1].tally())
        if bound.word == "none":
            shown = paper([*claims, some])
            self.assertIsNone(bound.value)
            self.assertTrue(self.refutes(shown, [*question[2], question[1].worded("more")], question))
            return
        self.assert_keeps(example([*claims, some]), question)
        if bound.word == "endless":
            self.assertIsNone(bound.value)
            self.assert_endless(question)
            return
        over, under = bound.value
        self.assertIs(type(bound.value), tuple)
        self.assertEqual((type(over), type(under), math.gcd(over, under)), (int, int, 1))
        self.assertGreater(under, 0)
        self.assertTrue(is_right(question, bound.value, share_paper(*passed(question), bound.value)))
        reaching = [*claims, some, Claim("even", excess(question, bound.value))]
        if bound.word == "reached":
            crowd = example(reaching)
            self.assert_keeps(crowd, question)
            self.assertEqual(self.over(crowd, question, bound.value), 0)
        else:
            self.assertTrue(paper_holds(reaching, paper(reaching)))
            for many in (1, 1000, 10 ** 9):
                below = (over * many - 1, under * many)
                crowd = nearing(*passed(question), below)
                self.assert_keeps(crowd, question)
                self.assertGreater(self.over(crowd, question, below), 0)
                self.assertLess(self.over(crowd, question, bound.value), 0)

    def refutes(self, shown, recipes, question):
        return any(weight > 0 for weight, recipe in zip(shown, recipes) if recipe.word == "more") and all(
            weight >= 0 for weight, recipe in zip(shown, recipes) if recipe.word != "even"
        ) and all(sum(weight * recipe.weight(kind) for weight, recipe in zip(shown, recipes)) <= 0 for kind in all_kinds(question))

    def assert_endless(self, question):
        """Put beside one with bottom above 0, a crowd that adds to the top alone brings any share."""
        top, bottom, claims = passed(question)
        loose = [Claim("even" if claim.word == "even" else "least", claim.tally) for claim in claims]
        crowd = example([*loose, Claim("even", bottom), Claim("more", top)])
        self.assert_relaxed(crowd, question)
        self.assertEqual(question[1].value(crowd.parts), 0)
        self.assertGreater(question[0].value(crowd.parts), 0)
        for many in (0, 1000, 10 ** 9):
            crowd = nearing(top, bottom, claims, (many, 1))
            self.assert_keeps(crowd, question)
            self.assertGreater(self.over(crowd, question, (many, 1)), 0)


class Bounds(Shared):
    def test_told_ones(self):
        for top, bottom, texts, most, fewest in TOLD:
            claims = [Claim.read(text) for text in texts]
            with self.subTest(top=top, bottom=bottom, claims=texts):
                self.assertEqual(str(greatest(Tally.read(top), Tally.read(bottom), claims)), most)
                self.assertEqual(str(least(Tally.read(top), Tally.read(bottom), claims)), fewest)
                self.assertEqual(str(greatest(Tally.read(top), Tally.read(bottom), tuple(claims))), most)
                if not texts:
                    self.assertEqual(str(greatest(Tally.read(top), Tally.read(bottom))), most)
                    self.assertEqual(str(least(Tally.read(top), Tally.read(bottom))), fewest)

    def test_the_examples_of_the_document(self):
        given = [Claim.share(A, B, 3, 4), Claim.share(A, C, 3, 4)]
        self.assertEqual(str(least(Tally.of(A & B & C), Tally.of(A), given)), "reached 1/2")
        self.assertEqual(str(greatest(Tally.of(A & B), Tally.of(A), [Claim.some(A - B)])), "neared 1/1")
        self.assertEqual(str(greatest(Tally.of(A), Tally.of(B))), "endless")

    def test_greatest(self):
        told = {word: 0 for word in WORDS}
        values = set()
        for question in QUESTIONS:
            bound = greatest(*passed(question))
            self.assert_bound(bound, question)
            self.assertEqual(greatest(*passed(question, tuple)), bound)
            told[bound.word] += 1
            values.add(bound.value)
        self.assertTrue(all(many >= 10 for many in told.values()), told)
        self.assertTrue(any(value and value[0] < 0 for value in values) and (0, 1) in values)
        self.assertTrue(any(value and value[0] > 0 and value[1] > 1 for value in values))

    def test_least_against_greatest_of_the_negated_top(self):
        for question in QUESTIONS:
            top, bottom, claims = passed(question)
            bound, turned = least(top, bottom, claims), greatest(-top, bottom, claims)
            self.assertIs(type(bound), Bound)
            self.assertEqual(bound.word, turned.word)
            self.assertEqual(bound.value, turned.value and (-turned.value[0], turned.value[1]))
            self.assertEqual(least(-top, bottom, tuple(claims)).word, greatest(top, bottom, claims).word)

    def test_without_claims(self):
        for question in QUESTIONS:
            top, bottom, _ = passed(question)
            self.assertEqual(greatest(top, bottom), greatest(top, bottom, []))
            self.assertEqual(greatest(top, bottom), greatest(top, bottom, ()))
            self.assertEqual(least(top, bottom), least(top, bottom, []))
            self.assert_bound(greatest(top, bottom), (question[0], question[1], []))

    def test_by_the_names_of_the_parameters(self):
        given = [Claim.share(A, B, 1, 3)]
        self.assertEqual(str(greatest(claims=given, bottom=Tally.of(A), top=Tally.of(A - B))), "reached 2/3")
        self.assertEqual(str(least(claims=given, bottom=Tally.of(A), top=Tally.of(A & B))), "reached 1/3")
        top, bottom = Tally.of(A & B), Tally.of(A)
        shown = share_paper(claims=[], bottom=bottom, top=top, value=(1, 1))
        self.assertIs(share_paper_holds(shown=shown, claims=[], bottom=bottom, top=top, value=(1, 1)), True)
        self.assertGreater(nearing(claims=[], bottom=bottom, top=top, value=(1, 2)).count(A & B), 0)


class Compared(unittest.TestCase):
    def test_bounds_among_themselves(self):
        texts = ["none", "endless", "reached 1/1", "neared 1/1", "reached 1/2", "reached 2/1", "reached -1/1", "neared -1/1", "reached 0/1"]
        bounds = {}
        for top, bottom, claims, most, fewest in TOLD:
            given = [Claim.read(text) for text in claims]
            bounds.setdefault(most, []).append(greatest(Tally.read(top), Tally.read(bottom), given))
            bounds.setdefault(fewest, []).append(least(Tally.read(top), Tally.read(bottom), given))
        self.assertLessEqual({"none", "endless", "reached 1/1", "neared 1/1", "reached 1/2"}, set(bounds))
        self.assertLess(len(set(texts) - set(bounds)), 3)
        for (text, mine), (other, others) in itertools.product(bounds.items(), repeat=2):
            for bound, told in itertools.product(mine, others):
                self.assertIs(bound == told, text == other)
                self.assertIs(bound != told, text != other)

    def test_other_values(self):
        for bound in [greatest(Tally.of(A), Tally.of(A)), greatest(Tally.of(A), Tally.of(B)), greatest(Tally.of(A), Tally())]:
            for value in any_values() + [str(bound), bound.word, bound.value, (bound.word, bound.value), object(), Bound]:
                if isinstance(value, Bound):
                    continue
                self.assertIs(bound == value, False)
                self.assertIs(value == bound, False)
                self.assertIs(bound != value, True)
            for compare in (operator.lt, operator.le, operator.gt, operator.ge):
                with self.assertRaises(TypeError):
                    compare(bound, bound)
            with self.assertRaises(TypeError):
                iter(bound)

    def test_attributes(self):
        for top, bottom, texts, most, _ in TOLD:
            bound = greatest(Tally.read(top), Tally.read(bottom), [Claim.read(text) for text in texts])
            self.assertEqual(vars(bound), {"word": bound.word, "value": bound.value})
            word, *value = most.split(" ")
            self.assertEqual(bound.word, word)
            self.assertEqual(bound.value, tuple(int(number) for number in value[0].split("/")) if value else None)
            self.assertIs(type(str(bound)), str)


def fractions_near(bound, source):
    """Fractions above, at and below a bound's value, or some if it has none, in lowest terms and not."""
    over, under = bound.value or (source.randint(-5, 5), source.randint(1, 5))
    made = [(over, under), (3 * over, 3 * under), (over + 1, under), (over - 1, under), (over * 1000 + 1, under * 1000)]
    made += [(over * 1000 - 1, under * 1000), (over * 2 - 1, under * 2), (0, 1), (0, 7), (10 ** 10, 1), (-10 ** 10, 1), (1, 10 ** 10)]
    return made


class Papers(Shared):
    def test_for_none(self):
        for question in QUESTIONS:
            top, bottom, claims = passed(question)
            shown = paper([*claims, Claim("more", bottom)])
            self.assertIs(shown is not None, greatest(top, bottom, claims).word == "none")
            if shown is not None:
                self.assertTrue(self.refutes(shown, [*question[2], question[1].worded("more")], question))

    def test_fractions_above_at_and_below(self):
        source = random.Random(85)
        told = []
        for question in QUESTIONS:
            bound = greatest(*passed(question))
            for value in fractions_near(bound, source):
                shown = share_paper(*passed(question), value)
                self.assertEqual(share_paper(*passed(question, tuple), value), shown)
                crowd = nearing(*passed(question), value)
                if shown is not None:
                    self.assertTrue(is_right(question, value, shown), (shown, value))
                    self.assertIs(share_paper_holds(*passed(question), value, shown), True)
                    self.assertIsNone(crowd)
                else:
                    self.assert_none_is_right(question, value)
                if bound.word != "none":
                    self.assertEqual(shown is None, crowd is not None)
                if bound.value is not None:
                    self.assertEqual(shown is None, value[0] * bound.value[1] < bound.value[0] * value[1])
                told.append(shown is None)
        self.assertGreater(told.count(True), 200)
        self.assertGreater(told.count(False), 200)

    def assert_none_is_right(self, question, value):
        """If a crowd keeps the relaxed claims and has an excess above 0, no weights are right."""
        top, bottom, claims = passed(question)
        loose = [Claim("even" if claim.word == "even" else "least", claim.tally) for claim in claims]
        crowd = example([*loose, Claim("least", bottom), Claim("more", excess(question, value))])
        self.assert_relaxed(crowd, question)
        self.assertGreater(self.over(crowd, question, value), 0)

    def test_papers_that_are_spoilt(self):
        source = random.Random(86)
        told = []
        for question in QUESTIONS:
            bound = greatest(*passed(question))
            for value in fractions_near(bound, source)[:5]:
                shown = share_paper(*passed(question), value) or (1,) * (len(question[2]) + 2)
                for changed in spoilt(shown, source):
                    expected = is_right(question, value, changed)
                    self.assertIs(share_paper_holds(*passed(question), value, changed), expected, (changed, value))
                    told.append(expected)
        self.assertGreater(told.count(True), 300)
        self.assertGreater(told.count(False), 300)

    def test_told_ones(self):
        top, bottom = Tally.of(A & B), Tally.of(A)
        for texts, value, shown, told in [
            ([], (1, 1), (0, 1), True), ([], (1, 1), (0, 7), True), ([], (1, 1), (0, 0), False), ([], (1, 1), (1, 1), False),
            ([], (1, 1), (-1, 1), False), ([], (2, 1), (1, 1), True), ([], (2, 1), (2, 1), False), ([], (2, 1), (2, 2), True),
            ([], (4, 2), (2, 1), True), ([], (4, 2), (3, 1), False), ([], (1, 2), (0, 1), False), ([], (1, 1), (0, -1), False),
            (["least + - a b"], (1, 1), (0, 0, 1), True), (["least + - a b"], (1, 1), (1, 0, 1), True), (["least + - a b"], (1, 1), (2, 0, 1), False),
            (["least + - a b"], (1, 1), (-1, 0, 1), False), (["more + - a b"], (1, 1), (1, 0, 1), True), (["more + - a b"], (1, 1), (-1, 0, 1), False),
            (["even + - a b"], (1, 1), (-1, 0, 1), True), (["even + - a b"], (1, 1), (-5, 0, 1), True), (["even + - a b"], (1, 1), (2, 0, 1), False),
            (["least + a - 2 & a b"], (1, 2), (1, 0, 2), False), (["least + a - 2 & a b"], (1, 2), (1, 0, 1), True),
            (["least + a - 2 & a b"], (1, 2), (0, 0, 1), False), ([], (1, 1), (0, 1, 1), False), ([], (1, 1), (1,), False), ([], (1, 1), (), False),
        ]:
            claims = [Claim.read(text) for text in texts]
            self.assertIs(share_paper_holds(top, bottom, claims, value, shown), told, (texts, value, shown))

    def test_names_in_the_tallies_alone(self):
        top, bottom = Tally.of(C), Tally.of(A)
        claims = [Claim.read("least + b - c"), Claim.read("least + 2 a - b")]
        self.assertEqual(str(greatest(top, bottom, claims)), "reached 2/1")
        self.assertIs(share_paper_holds(top, bottom, claims, (2, 1), (1, 1, 0, 1)), True)
        self.assertIs(share_paper_holds(top, bottom, [], (2, 1), (0, 1)), False)

    def test_any_value(self):
        question = (ClaimText("even + & a b"), ClaimText("even + a"), [ClaimText("least + a - 2 & a b"), ClaimText("even + c")])
        for value in any_values() + [{}, object(), 1.0, (0.0, 1.0), {1}, range(4), b"abcd"]:
            with self.subTest(value=value):
                self.assertIs(share_paper_holds(*passed(question), (1, 2), value), is_right(question, (1, 2), value))
                for at in range(4):
                    wrong = [1, 0, 0, 1]
                    wrong[at] = value
                    self.assertIs(share_paper_holds(*passed(question), (1, 2), wrong), False)
                    told = share_paper_holds(*passed(question), (1, 2), tuple(wrong))
                    self.assertIs(told, is_right(question, (1, 2), tuple(wrong)))
        self.assertIs(share_paper_holds(*passed(question), (1, 2), (1, 3, 0, 1)), False)
        self.assertIs(share_paper_holds(*passed(question), (1, 2), (1, -3, 0, 1)), True)


class Nearing(Shared):
    def test_fractions_below_at_and_above(self):
        source = random.Random(88)
        told = []
        for question in QUESTIONS:
            bound = greatest(*passed(question))
            for value in fractions_near(bound, source):
                crowd = nearing(*passed(question), value)
                self.assertEqual(nearing(*passed(question, tuple), value), crowd)
                if crowd is not None:
                    self.assert_keeps(crowd, question)
                    self.assertGreater(self.over(crowd, question, value), 0)
                if bound.value is not None:
                    self.assertEqual(crowd is not None, value[0] * bound.value[1] < bound.value[0] * value[1])
                else:
                    self.assertEqual(crowd is not None, bound.word == "endless")
                told.append(crowd is None)
        self.assertGreater(told.count(True), 200)
        self.assertGreater(told.count(False), 200)

    def test_told_ones(self):
        top, bottom = Tally.of(A & B), Tally.of(A)
        self.assertIsNone(nearing(top, bottom, [], (1, 1)))
        self.assertIsNone(nearing(top, bottom, [Claim.some(A - B)], (1, 1)))
        self.assertIsNone(nearing(top, bottom, [Claim.read("even + a")], (-5, 1)))
        crowd = nearing(top, bottom, [Claim.some(A - B)], (999999, 1000000))
        self.assertTrue(crowd.count(A - B) > 0 and 1000000 * crowd.count(A & B) > 999999 * crowd.count(A))
        crowd = nearing(Tally.of(A), Tally.of(B), [], (10 ** 10, 1))
        self.assertGreater(crowd.count(A), 10 ** 10 * crowd.count(B))
        self.assertGreater(crowd.count(B), 0)


class Unchanged(unittest.TestCase):
    def test_what_was_passed_and_the_same_call_again(self):
        before = {}
        for again in range(2):
            for at, question in list(enumerate(QUESTIONS))[::4 if again == 0 else -4]:
                top, bottom, claims = passed(question)
                for use in (greatest, least, lambda *told: share_paper(*told, (1, 2)), lambda *told: nearing(*told, (1, 2))):
                    use(top, bottom, claims)
                told = (greatest(top, bottom, claims), share_paper(top, bottom, claims, (3, 2)), nearing(top, bottom, claims, (-3, 2)))
                self.assertEqual(before.setdefault(at, told), told)
                self.assertEqual([str(claim) for claim in claims], [recipe.text() for recipe in question[2]])
                self.assertEqual(str(top), str(question[0].tally()))


if __name__ == "__main__":
    unittest.main()
