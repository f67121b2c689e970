"""[15] and [16]: what is possible, what follows, and crowds that keep claims."""

import itertools
import random
import unittest

from mostcrowds.claims import Claim
from mostcrowds.crowds import Crowd
from mostcrowds.deciding import example, fewest, follows, fullest, open_kinds, possible
from mostcrowds.groups import Group
from mostcrowds.tallies import Tally

from tests.values import A, B, C, ClaimText, can_be_kept, is_so, keep, kinds_of, made_claim, made_claims

# Lists of claims, most of them not possible, with names that matter in different ways.
WRITTEN = [
    [], ["least 0"], ["more 0"], ["even 0"], ["more + none"], ["even + all"], ["least - all"], ["more - all"],
    ["even + all", "more + a"], ["even + all", "least + a"], ["more + a", "more - a"], ["least + a - b", "least + b - a"],
    ["least + a - b", "more + b - a"], ["more + a - b", "more + b - c", "more + c - a"],
    ["more + a - b", "more + b - c", "least + a - 2 c"], ["even + a - b", "more + a", "even + & a b"],
    ["least + 3 & a b - 2 a", "least + 2 & a c - a", "more + a - 6 & & a b c"], ["even + - a b", "even + - b c", "more + - a c"],
    ["more + ~ a", "even + ~ a"], ["more + ~ | a b", "even + a + b"], ["even + 1000000 a - 999999 b", "more + a", "more + b - a"],
    ["even + 3 a - 7 b", "even + 5 b - 11 c", "more + a", "more + c"], ["more + a", "more + a", "more + a"],
    ["least - a", "least - b", "least - c", "more + ~ & & a b c"], ["even + a - b - c", "even + & b c", "more + b", "more + c"],
    ["least + at 2 3 a b c - at 1 3 a b c", "more + a", "more + ^ ^ a b c"], ["least - 5 a + b", "least - 5 b + c", "least - 5 c + a", "more + all"],
    ["even + - a a", "even + none", "least - none", "more + b"], ["even + a - b", "even - a + b", "even + b - a", "more + - a b"],
]
MADE = (
    made_claims(50, 120, "abc", 5, 4)
    + made_claims(51, 60, "ab", 6, 6, ("least", "more", "even"))
    + made_claims(52, 60, "a", 6, 9, ("least", "more", "more", "even"))
    + made_claims(53, 40, "abc", 6, 10 ** 6, ("least", "more", "even"))
)
WIDER = made_claims(54, 25, "abcd", 6, 5) + made_claims(55, 12, "abcde", 6, 5)


def as_claims(recipes, make=list):
    return make([recipe.claim() for recipe in recipes])


ALL = [[ClaimText(text) for text in texts] for texts in WRITTEN] + MADE
EVERYTHING = ALL + WIDER


def contrary_possible(recipes, recipe):
    """Whether some crowd keeps claims, but not another one."""
    among = kinds_of([*recipes, recipe])
    words, rows = [one.word for one in recipes], [[one.weight(kind) for kind in among] for one in recipes]
    row = [recipe.weight(kind) for kind in among]
    turned = [-weight for weight in row]
    breaks = {"least": [("more", turned)], "more": [("least", turned)], "even": [("more", row), ("more", turned)]}[recipe.word]
    return any(can_be_kept([*words, word], [*rows, told]) for word, told in breaks)


class Shared(unittest.TestCase):
    def assert_keeps(self, crowd, recipes):
        self.assertIs(type(crowd), Crowd)
        for recipe in recipes:
            value = sum(recipe.weight(kind) * many for kind, many in crowd.parts)
            self.assertTrue(is_so(recipe.word, value), (str(crowd), recipe.text()))
        names = set().union(*[recipe.names() for recipe in recipes])
        self.assertTrue(all(set(kind) <= names for kind, _ in crowd.parts))


class Possible(Shared):
    def test_lists_and_tuples(self):
        told = []
        for recipes in EVERYTHING:
            for make in (list, tuple):
                answer = possible(as_claims(recipes, make))
                self.assertIs(answer, keep(recipes), [recipe.text() for recipe in recipes])
            told.append(answer)
        self.assertGreater(told.count(True), 50)
        self.assertGreater(told.count(False), 50)

    def test_told_ones(self):
        for texts, answer in [
            ([], True), (["least 0"], True), (["more 0"], False), (["even 0"], True), (["more + none"], False),
            (["more + all"], True), (["more - all"], False), (["least - all"], True), (["even + all", "more + a"], False),
            (["more + a", "more - a"], False), (["least + a - b", "more + b - a"], False), (["more + ~ a"], True),
            (["more + a - b", "more + b - c", "more + c - a"], False), (["more + a - b", "more + b - c"], True),
            (["even + - a b", "even + - b c", "more + - a c"], False), (["even + - a b", "more + - b a", "more + a"], True),
        ]:
            self.assertIs(possible([Claim.read(text) for text in texts]), answer, texts)

    def test_side_by_side(self):
        for recipes in ALL[:80]:
            claims = as_claims(recipes)
            crowd = example(claims)
            if crowd is not None:
                self.assert_keeps(crowd + crowd * 3, recipes)
                self.assert_keeps(crowd + fullest(claims), recipes)
            if all(recipe.word != "more" for recipe in recipes):
                self.assert_keeps(Crowd(), recipes)
                self.assertIs(possible(claims), True)


class Example(Shared):
    def test_lists_and_tuples(self):
        for recipes in EVERYTHING:
            for make in (list, tuple):
                crowd = example(as_claims(recipes, make))
                if keep(recipes):
                    self.assert_keeps(crowd, recipes)
                    self.assertLessEqual(len(crowd), len(recipes))
                else:
                    self.assertIsNone(crowd)

    def test_no_claims_at_all(self):
        self.assertEqual((example([]), example(())), (Crowd(), Crowd()))

    def test_claims_that_need_as_many_kinds_as_there_are_claims(self):
        texts = ["more + a - & a b - & a c", "more + b - & a b - & b c", "more + c - & a c - & b c", "more + & & a b c"]
        crowd = example([Claim.read(text) for text in texts])
        self.assert_keeps(crowd, [ClaimText(text) for text in texts])
        self.assertLessEqual(len(crowd), 4)

    def test_many_even_claims(self):
        source = random.Random(56)
        for _ in range(150):
            recipes = [made_claim(source, "abc", 9, ("even",)) for _ in range(source.randrange(1, 6))]
            recipes.insert(source.randrange(len(recipes)), made_claim(source, "abc", 9, ("more",)))
            crowd = example(as_claims(recipes))
            self.assertIs(crowd is not None, keep(recipes))
            if crowd is not None:
                self.assert_keeps(crowd, recipes)
                self.assertLessEqual(len(crowd), len(recipes))


class Fewest(Shared):
    def test_against_the_lesser_sets_of_kinds(self):
        sizes = set()
        for recipes in ALL:
            for make in (list, tuple):
                crowd = fewest(as_claims(recipes, make))
            if not keep(recipes):
                self.assertIsNone(crowd)
                continue
            self.assert_keeps(crowd, recipes)
            self.assertLessEqual(len(crowd), len(recipes))
            sizes.add(len(crowd))
            for lesser in range(len(crowd)):
                for among in itertools.combinations(kinds_of(recipes), lesser):
                    self.assertFalse(keep(recipes, among), (str(crowd), among))
        self.assertLessEqual({0, 1, 2, 3}, sizes)

    def test_told_ones(self):
        for texts, many in [
            ([], 0), (["least + a"], 0), (["more + a"], 1), (["more + a", "more + b"], 1), (["more + - a b", "more + - b a"], 2),
            (["more + - - a b c", "more + - - b a c", "more + - - c a b"], 3),
            (["more + ~ | | a b c", "more + - - a b c", "more + - - b a c", "more + - - c a b"], 4), (["more + ~ a"], 1),
        ]:
            self.assertEqual(len(fewest([Claim.read(text) for text in texts])), many, texts)

    def test_a_list_that_is_not_possible(self):
        self.assertIsNone(fewest([Claim.read("more 0")]))
        self.assertIsNone(fewest((Claim.some(A), Claim.some(A).contrary())))


class Follows(Shared):
    def test_all_words(self):
        source = random.Random(57)
        told = {word: [] for word in ("least", "more", "even")}
        for recipes in ALL:
            others = [made_claim(source, "abc", 5, ("least", "more", "even")) for _ in range(3)]
            for recipe in others + recipes[:2]:
                answer = not contrary_possible(recipes, recipe)
                for make in (list, tuple):
                    self.assertIs(follows(as_claims(recipes, make), recipe.claim()), answer)
                told[recipe.word].append(answer)
                if recipe.word != "even":
                    self.assertIs(answer, not possible(as_claims(recipes) + [recipe.claim().contrary()]))
        for answers in told.values():
            self.assertGreater(answers.count(True), 30)
            self.assertGreater(answers.count(False), 30)

    def test_each_claim_follows_from_itself(self):
        for recipes in EVERYTHING:
            for recipe in recipes:
                self.assertIs(follows(as_claims(recipes), recipe.claim()), True)

    def test_what_follows_from_claims_that_are_not_possible(self):
        claims = [Claim.some(A), Claim.read("even + a")]
        for text in ["more 0", "least - all", "even + b", "more - c"]:
            self.assertIs(follows(claims, Claim.read(text)), True)

    def test_told_ones(self):
        given = [Claim.share(A, B, 2, 3), Claim.share(A, C, 1, 2)]
        for over, under, answer in [(1, 6, True), (1, 7, True), (0, 1, True), (1, 5, False), (2, 11, False)]:
            self.assertIs(follows(given, Claim.share(A, B & C, over, under)), answer)
        for texts, text, answer in [
            ([], "least + a", True), ([], "least - a", False), ([], "even + none", True), ([], "even + a", False), ([], "more + all", False),
            ([], "more 0", False), ([], "least 0", True), ([], "even + a - & a b - - a b", True), (["more + a"], "more + | a b", True),
            (["more + a"], "even + a", False), (["least + a - b", "least + b - a"], "even + a - b", True),
            (["least + a - b"], "even + a - b", False), (["least + b - a"], "even + a - b", False),
            (["even + - a b", "even + - b c"], "even + - a c", True), (["even + - a b"], "least + b - a", True),
            (["even + 2 a - 3 b"], "even - 4 a + 6 b", True), (["even + 2 a - 3 b"], "more + a", False), (["least + a"], "even + - a b", False),
        ]:
            self.assertIs(follows([Claim.read(told) for told in texts], Claim.read(text)), answer, (texts, text))

    def test_names_of_the_claim_alone(self):
        self.assertIs(follows([Claim.some(A)], Claim.some(A | Group.named("z"))), True)
        self.assertIs(follows([Claim.some(A)], Claim.some(A & Group.named("z"))), False)

    def test_by_the_names_of_the_parameters(self):
        self.assertIs(follows(claim=Claim.some(A), claims=[Claim.some(A & B)]), True)
        self.assertIs(possible(claims=[]), True)
        self.assertEqual((example(claims=()), fewest(claims=()), fullest(claims=())), (Crowd(), Crowd(), fullest([])))
        self.assertEqual(open_kinds(claims=[]), ((),))


class Open(Shared):
    def open(self, recipes):
        among = kinds_of(recipes)
        words = [recipe.word for recipe in recipes] + ["more"]
        rows = [[recipe.weight(kind) for kind in among] for recipe in recipes]
        if not keep(recipes):
            return ()
        return tuple(kind for kind in among if can_be_kept(words, rows + [[int(kind == other) for other in among]]))

    def test_against_each_kind(self):
        for recipes in EVERYTHING:
            for make in (list, tuple):
                told = open_kinds(as_claims(recipes, make))
                self.assertEqual(told, self.open(recipes), [recipe.text() for recipe in recipes])
                self.assertIs(type(told), tuple)
                self.assertTrue(all(type(kind) is tuple for kind in told))

    def test_told_ones(self):
        for texts, told in [
            ([], ((),)), (["even + all"], ()), (["more 0"], ()), (["least + a"], ((), ("a",))), (["even + ~ a"], (("a",),)),
            (["even + a"], ((),)), (["more + a", "even + a"], ()), (["even + - a b"], ((), ("b",), ("a", "b"))),
            (["even + - b a", "least + 0 aa"], ((), ("a",), ("aa",), ("a", "aa"), ("a", "b"), ("a", "aa", "b"))),
            (["least - - a b", "least 0"], ((), ("b",), ("a", "b"))), (["even + & a b", "more + a"], ((), ("a",), ("b",))),
        ]:
            self.assertEqual(open_kinds([Claim.read(text) for text in texts]), told, texts)

    def test_fullest(self):
        for recipes in EVERYTHING:
            for make in (list, tuple):
                crowd = fullest(as_claims(recipes, make))
            if not keep(recipes):
                self.assertIsNone(crowd)
                continue
            self.assert_keeps(crowd, recipes)
            self.assertEqual({kind for kind, _ in crowd.parts}, set(self.open(recipes)))
            for recipe in recipes:
                if recipe.word == "least":
                    value = sum(recipe.weight(kind) * many for kind, many in crowd.parts)
                    self.assertIs(value > 0, self.can_be_above(recipes, recipe), (str(crowd), recipe.text()))

    def can_be_above(self, recipes, recipe):
        among = kinds_of(recipes)
        rows = [[one.weight(kind) for kind in among] for one in [*recipes, recipe]]
        return can_be_kept([one.word for one in recipes] + ["more"], rows)

    def test_told_crowds(self):
        self.assertEqual(fullest([]).parts[0][0], ())
        self.assertEqual(fullest([Claim.read("even + all")]), Crowd())
        crowd = fullest([Claim.read("least + a - b"), Claim.read("least - 2 a + 3 b")])
        self.assertEqual(len(crowd), 4)
        self.assertTrue(crowd.count(B) < crowd.count(A) and 2 * crowd.count(A) < 3 * crowd.count(B))


class Unchanged(unittest.TestCase):
    def test_what_was_passed_and_the_same_call_again(self):
        uses = [possible, example, fewest, open_kinds, fullest, lambda claims: follows(claims, Claim.more_in(A, B))]
        before = {}
        for again in range(2):
            for at, recipes in enumerate(ALL[::3]):
                claims = as_claims(recipes)
                texts = [recipe.text() for recipe in recipes]
                for use in uses if not again else uses[::-1]:
                    told = use(claims)
                    self.assertEqual(before.setdefault((at, uses.index(use)), told), told)
                    self.assertEqual([str(claim) for claim in claims], texts)

    def test_crowds_that_are_told_may_be_passed_on(self):
        for recipes in ALL[:60]:
            crowd = fullest(as_claims(recipes))
            if crowd is not None:
                self.assertEqual((crowd * 10 + crowd).size, 11 * crowd.size)
                self.assertEqual(Tally.of(Group.every()).on(crowd), crowd.size)


if __name__ == "__main__":
    unittest.main()
