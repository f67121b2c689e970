"""[13] and [14]: how claims are made, what they say, and which ones are equal."""

import itertools
import operator
import random
import unittest

from mostcrowds.claims import Claim
from mostcrowds.crowds import Crowd
from mostcrowds.errors import CrowdError, InvalidClaim
from mostcrowds.groups import Group
from mostcrowds.tallies import Tally

from tests.recipes import ONE_LEVEL, group_of, has, put, text_of
from tests.test_crowds import added, made_crowd
from tests.values import A, B, C, any_values, is_so, kinds_over, made_claims

WORDS = ("least", "more", "even")
MADE = [recipe for recipes in made_claims(40, 40, "abc", 4) for recipe in recipes]
CROWDS = [made_crowd(random.Random(seed), "abcd") for seed in range(25)] + [[], [(("a",), 10 ** 30), (("b",), 10 ** 30)]]


class Made(unittest.TestCase):
    def test_each_word(self):
        for word in WORDS:
            tally = Tally([(2, A & C), (-1, B)])
            claim = Claim(word, tally)
            self.assertEqual(claim.word, word)
            self.assertIs(claim.tally, tally)
            self.assertEqual(claim.names, ("a", "b", "c"))

    def test_by_the_names_of_the_parameters(self):
        self.assertEqual(str(Claim(tally=Tally.of(A), word="even")), "even + a")
        self.assertEqual(str(Claim.share(under=3, over=2, other=B, group=A)), "least + 3 & a b - 2 a")
        self.assertEqual(str(Claim.more_in(other=B, group=A)), "more + a - b")
        self.assertEqual(str(Claim.inside(other=B, group=A)), "even + - a b")
        self.assertEqual(str(Claim.some(group=A)), "more + a")

    def test_class_methods(self):
        for recipe, other in itertools.product(ONE_LEVEL, ONE_LEVEL[:8]):
            group, told = text_of(recipe), text_of(other)
            x, y = group_of(recipe), group_of(other)
            self.assertEqual(str(Claim.share(x, y, 2, 3)), f"least + 3 & {group} {told} - 2 {group}")
            self.assertEqual(str(Claim.share(x, y, 1, 1)), f"least + & {group} {told} - {group}")
            self.assertEqual(str(Claim.share(x, y, 0, 10 ** 10)), f"least + 10000000000 & {group} {told} + 0 {group}")
            self.assertEqual(str(Claim.share(x, y, 7, 4)), f"least + 4 & {group} {told} - 7 {group}")
            self.assertEqual(str(Claim.more_in(x, y)), f"more + {group} - {told}")
            self.assertEqual(str(Claim.inside(x, y)), f"even + - {group} {told}")
            self.assertEqual(str(Claim.some(x)), f"more + {group}")

    def test_their_kind(self):
        for claim in [Claim.share(A, B, 1, 2), Claim.more_in(A, B), Claim.inside(A, B), Claim.some(A), Claim.read("even 0")]:
            self.assertIs(type(claim), Claim)

    def test_what_the_class_methods_say(self):
        for recipe, other in itertools.product(ONE_LEVEL[:12], ONE_LEVEL[:6]):
            x, y = group_of(recipe), group_of(other)
            for parts in CROWDS:
                crowd = Crowd(parts)
                mine = sum(many for kind, many in added(parts) if has(recipe, kind))
                others = sum(many for kind, many in added(parts) if has(other, kind))
                both = sum(many for kind, many in added(parts) if has(recipe, kind) and has(other, kind))
                self.assertIs(Claim.share(x, y, 2, 3).holds(crowd), 3 * both >= 2 * mine)
                self.assertIs(Claim.more_in(x, y).holds(crowd), mine > others)
                self.assertIs(Claim.inside(x, y).holds(crowd), both == mine)
                self.assertIs(Claim.some(x).holds(crowd), mine > 0)

    def test_claims_are_not_iterable(self):
        for use in (iter, list, lambda it: [*it], lambda it: A in it):
            with self.assertRaises(TypeError):
                use(Claim.some(A))


class Refused(unittest.TestCase):
    def assert_refused(self, word, make):
        with self.assertRaises(InvalidClaim) as caught:
            make()
        self.assertIs(type(caught.exception), InvalidClaim)
        self.assertEqual(caught.exception.word, word)

    def test_words(self):
        for value in any_values() + ["Least", "least ", "most", "mor", "moree", ("least",), ["more"], {}, object()]:
            if value not in WORDS:
                with self.subTest(value=value):
                    self.assert_refused("word", lambda: Claim(value, Tally()))
                    self.assert_refused("word", lambda: Claim(value, value))
                    self.assert_refused("word", lambda: Claim(value, None))

    def test_tallies(self):
        for value in any_values() + [A, [(1, A)], ((1, A),), "+ a", Tally, {}, object()]:
            if type(value) is not Tally:
                for word in WORDS:
                    with self.subTest(value=value, word=word):
                        self.assert_refused("tally", lambda: Claim(word, value))

    def test_over_and_under(self):
        for value in any_values() + [1.5, {}, object(), "2"]:
            with self.subTest(value=value):
                if type(value) is not int or value < 0:
                    self.assert_refused("over", lambda: Claim.share(A, B, value, 2))
                    self.assert_refused("over", lambda: Claim.share(A, B, value, value))
                    self.assert_refused("over", lambda: Claim.share(A, B, value, 0))
                if type(value) is not int or value < 1:
                    self.assert_refused("under", lambda: Claim.share(A, B, 0, value))
                    self.assert_refused("under", lambda: Claim.share(A, B, 1, value))

    def test_the_edges_of_over_and_under(self):
        self.assert_refused("over", lambda: Claim.share(A, B, -1, 1))
        self.assert_refused("under", lambda: Claim.share(A, B, 0, 0))
        self.assertEqual(str(Claim.share(A, B, 0, 1)), "least + & a b + 0 a")

    def test_it_is_a_crowd_error(self):
        with self.assertRaises(CrowdError):
            Claim("odd", Tally())


class Holds(unittest.TestCase):
    def test_each_word(self):
        for recipe in MADE:
            claim = recipe.claim()
            for parts in CROWDS:
                self.assertIs(claim.holds(Crowd(parts)), is_so(recipe.word, recipe.value(added(parts))))
            self.assertIs(claim.holds(crowd=Crowd()), recipe.word != "more")

    def test_the_edges(self):
        for value, told in [(-1, (False, False, False)), (0, (True, False, True)), (1, (True, True, False))]:
            crowd = Crowd([(("a",), 5 + value), (("b",), 5)])
            tally = Tally.read("+ a - b")
            self.assertEqual(tuple(Claim(word, tally).holds(crowd) for word in WORDS), told)

    def test_huge_crowds(self):
        crowd = Crowd([(("a",), 10 ** 30), (("b",), 10 ** 30 - 1)])
        self.assertTrue(Claim.more_in(A, B).holds(crowd))
        self.assertFalse(Claim.read("even + a - b").holds(crowd))


class Names(unittest.TestCase):
    def test_names(self):
        for recipe in MADE:
            self.assertEqual(recipe.claim().names, tuple(sorted(recipe.names())))
        self.assertEqual(Claim.read("least + 0 c - & b a + 2 all").names, ("a", "b", "c"))
        self.assertEqual(Claim.read("more 0").names, ())


class Put(unittest.TestCase):
    def test_groups_in_the_place_of_names(self):
        for recipe in MADE:
            for others in [{}, {"a": "b"}, {"a": "b", "b": "a"}, {"a": ("&", "b", "c"), "c": ("~", "a"), "d": "a"}, {"b": ("none",)}]:
                claim = recipe.claim()
                told = claim.put({name: group_of(other) for name, other in others.items()})
                self.assertIs(type(told), Claim)
                self.assertEqual(told.word, recipe.word)
                self.assertEqual(
                    [(number, str(group)) for number, group in told.tally.terms],
                    [(number, text_of(put(part, others))) for number, part in recipe.terms],
                )
                self.assertEqual(str(claim), recipe.text())

    def test_by_the_name_of_the_parameter_and_left_as_it_was(self):
        groups = {"a": B | C, "b": A}
        told = Claim.more_in(A, B).put(groups=groups)
        groups["a"] = A
        self.assertEqual((str(told), told.names, str(groups["b"])), ("more + | b c - a", ("a", "b", "c"), "a"))
        self.assertEqual(sorted(groups), ["a", "b"])


class Contrary(unittest.TestCase):
    def test_it_holds_exactly_where_the_claim_does_not(self):
        for recipe in MADE:
            if recipe.word == "even":
                continue
            claim = recipe.claim()
            contrary = claim.contrary()
            self.assertIs(type(contrary), Claim)
            self.assertEqual(contrary.word, "more" if recipe.word == "least" else "least")
            self.assertEqual(
                [(number, str(group)) for number, group in contrary.tally.terms],
                [(-number, str(group)) for number, group in claim.tally.terms],
            )
            for parts in CROWDS:
                self.assertIs(contrary.holds(Crowd(parts)), not claim.holds(Crowd(parts)))
            self.assertEqual(str(claim), recipe.text())
            self.assertEqual(contrary.contrary(), claim)

    def test_of_an_even_claim(self):
        for text in ["even 0", "even + a", "even - 2 a + b", "even + none"]:
            with self.assertRaises(InvalidClaim) as caught:
                Claim.read(text).contrary()
            self.assertIs(type(caught.exception), InvalidClaim)
            self.assertEqual(caught.exception.word, "even")


# Tallies of which each one has the weights of the first one, times a positive fraction.
ALIKE = [
    ["+ a", "+ 3 a", "+ 1000000 a", "+ a + a", "+ & a b + - a b", "+ a + 0 c", "+ 7 a + none"],
    ["- a", "- 2 a", "+ a - 5 a"],
    ["+ 2 a - 3 b", "+ 4 a - 6 b", "+ 10 - a b - 15 - b a - 5 & a b", "+ 2 a - 3 b + c - c"],
    ["- 2 a + 3 b", "- 20 a + 30 b"],
    ["+ 3 a - 2 b", "+ 9 a - 6 b"],
    ["0", "+ 0 a", "+ a - a", "+ none", "+ 3 none - 2 & b ~ b"],
    ["+ all", "+ 2 a + 2 ~ a", "+ 5 at 0 0"],
    ["+ a - b", "+ 3 - a b - 3 - b a"],
    ["- a + b"],
    ["+ 2 a + 3 b", "+ 6 a + 9 b"],
    ["- 4 a - 6 b", "- 2 a - 3 b"],
]
TURNED = [(0, 1), (2, 3), (7, 8), (9, 10)]


class Equal(unittest.TestCase):
    def test_weights_in_the_same_proportions(self):
        for (at, texts), (other_at, others) in itertools.product(enumerate(ALIKE), repeat=2):
            for text, other in itertools.product(texts, others):
                for word, other_word in itertools.product(WORDS, repeat=2):
                    claim, told = Claim.read(f"{word} {text}"), Claim.read(f"{other_word} {other}")
                    turned = word == "even" and ((at, other_at) in TURNED or (other_at, at) in TURNED)
                    same = word == other_word and (at == other_at or turned)
                    self.assertIs(claim == told, same, (str(claim), str(told)))
                    self.assertIs(claim != told, not same, (str(claim), str(told)))

    def test_many_made_ones(self):
        ways = kinds_over("abc")
        for recipe, other in itertools.combinations(MADE, 2):
            mine, others = [recipe.weight(kind) for kind in ways], [other.weight(kind) for kind in ways]
            same = recipe.word == other.word and self.in_proportion(mine, others, recipe.word)
            self.assertIs(recipe.claim() == other.claim(), same)

    def in_proportion(self, mine, others, word):
        if any(x * v != y * u for (x, y), (u, v) in itertools.product(zip(mine, others), repeat=2)):
            return False
        products = [x * y for x, y in zip(mine, others) if x or y]
        return all(product > 0 for product in products) or (word == "even" and all(product != 0 for product in products))

    def test_values_that_are_no_claims(self):
        for claim in [Claim.some(A), Claim("even", Tally()), Claim.read("least 0")]:
            for value in [value for value in any_values() if type(value) is not Claim] + [str(claim), claim.tally, object(), Claim]:
                self.assertIs(claim == value, False)
                self.assertIs(value == claim, False)
                self.assertIs(claim != value, True)

    def test_there_is_no_order_and_no_sign(self):
        for use in (operator.lt, operator.le, operator.gt, operator.ge, operator.add, operator.sub, operator.and_, operator.or_):
            with self.assertRaises(TypeError):
                use(Claim.some(A), Claim.some(A))


class Unchanged(unittest.TestCase):
    def test_what_was_used_stays(self):
        for recipe in MADE:
            claim = recipe.claim()
            tally = claim.tally
            for parts in CROWDS[:5]:
                claim.holds(Crowd(parts))
            claim.put({"a": B})
            claim == Claim.some(Group.every())
            str(claim)
            self.assertIs(claim.tally, tally)
            self.assertEqual((claim.word, str(claim), claim.names), (recipe.word, recipe.text(), tuple(sorted(recipe.names()))))


if __name__ == "__main__":
    unittest.main()
