"""[11] and [12]: tallies, their weights, values and comparisons."""

import itertools
import operator
import random
import unittest

from mostcrowds.crowds import Crowd
from mostcrowds.errors import CrowdError, InvalidTally
from mostcrowds.groups import Group
from mostcrowds.kinds import kinds
from mostcrowds.tallies import Tally, weights

from tests.recipes import ONE_LEVEL, group_of, made_recipes
from tests.test_crowds import added, made_crowd
from tests.values import A, B, C, any_values, kinds_over, made_claims

COMPARISONS = [operator.le, operator.lt, operator.ge, operator.gt, operator.eq, operator.ne]
MADE = [recipe for recipes in made_claims(20, 14, "abcd", 4) for recipe in recipes]

NO_TERMS = [
    None, 0, 1, True, "a", "", "1a", A, Tally(), [], (), (1,), (1, A, A), (A, 1), [1, A], (True, A), (False, A), (None, A), ("1", A),
    ((1,), A), (1, "a"), (1, None), (1, 1), (1, (A,)), (1, [A]), (1, Tally()), (1, Crowd()), (A, A), ((1, A),), {}, (1, Group),
]
SAME = [
    ["0", "+ 0 a", "+ a - a", "+ none", "- 3 none + 0 b", "+ a - b - - a b + - b a", "+ & a ~ a"],
    ["+ a", "+ & a b + - a b", "+ 2 a - a", "+ | a b - - b a", "+ a + 0 c", "+ all - ~ a"],
    ["+ a + b", "+ | a b + & a b", "+ b + a", "+ 2 & a b + ^ a b"],
    ["+ 2 a - b", "+ a - b + a", "- b + 2 a + none", "+ 2 - a b + & a b - - b a"],
    ["+ all", "+ a + ~ a", "+ at 0 0", "+ at 1 2 b ~ b"],
    ["- a", "+ ~ a - all", "+ a - 2 a"],
    ["+ at 2 3 a b c", "+ & a b + & a c + & b c - 2 & & a b c"],
]


class Made(unittest.TestCase):
    def test_terms_as_passed(self):
        for rows in [[], [(1, A)], [(0, A), (-3, B), (10 ** 6, A & C)], [(1, A), (1, A)], [(2, Group.nothing())]]:
            for make in (list, tuple):
                terms = make(rows)
                tally = Tally(terms)
                self.assertIs(type(tally.terms), tuple)
                self.assertEqual([number for number, _ in tally.terms], [number for number, _ in rows])
                for (_, group), (_, same) in zip(tally.terms, rows):
                    self.assertIs(group, same)

    def test_without_an_argument_and_by_its_name(self):
        self.assertEqual((Tally().terms, Tally().names), ((), ()))
        self.assertEqual(str(Tally(terms=[(2, A)])), "+ 2 a")

    def test_of(self):
        for recipe in ONE_LEVEL:
            group = group_of(recipe)
            tally = Tally.of(group)
            self.assertIs(type(tally), Tally)
            self.assertEqual([number for number, _ in tally.terms], [1])
            self.assertIs(tally.terms[0][1], group)
        self.assertEqual(str(Tally.of(group=A)), "+ a")

    def test_names(self):
        for recipe in MADE:
            self.assertEqual(recipe.tally().names, tuple(sorted(recipe.names())))
        self.assertEqual(Tally([(0, C), (1, A)]).names, ("a", "c"))
        self.assertEqual(Tally([(1, B & A), (1, A - A), (-1, Group.every())]).names, ("a", "b"))
        self.assertEqual(Tally([(1, Group.named("b")), (1, Group.named("ab"))]).names, ("ab", "b"))

    def test_lists_that_are_changed_after_the_call(self):
        terms = [(1, A), (2, B)]
        tally = Tally(terms)
        terms.append((1, C))
        terms[0] = None
        self.assertEqual((str(tally), tally.names), ("+ a + 2 b", ("a", "b")))

    def test_huge_numbers(self):
        self.assertEqual(str(Tally([(-10 ** 40, A)])), "- 1" + "0" * 40 + " a")

    def test_tallies_are_not_iterable(self):
        for use in (iter, list, lambda it: [*it], lambda it: A in it):
            with self.assertRaises(TypeError):
                use(Tally([(1, A)]))


class Refused(unittest.TestCase):
    def assert_refused(self, terms):
        with self.assertRaises(InvalidTally) as caught:
            Tally(terms)
        self.assertIs(type(caught.exception), InvalidTally)
        self.assertEqual(caught.exception.word, "terms")

    def test_no_term(self):
        for value in NO_TERMS:
            with self.subTest(value=value):
                for make in (list, tuple):
                    self.assert_refused(make([value]))
                    self.assert_refused(make([(1, A), value]))
                    self.assert_refused(make([value, (1, A), (2, B)]))

    def test_any_value(self):
        for value in any_values():
            with self.subTest(value=value):
                if type(value) not in (list, tuple):
                    self.assert_refused(value)
                if type(value) is not tuple or len(value) != 2 or type(value[0]) is not int or type(value[1]) is not Group:
                    self.assert_refused([(1, A), value])
                if type(value) is not int:
                    self.assert_refused([(value, A)])
                if type(value) is not Group:
                    self.assert_refused(((1, A), (1, value)))

    def test_it_is_a_crowd_error(self):
        with self.assertRaises(CrowdError):
            Tally(1)


class Signs(unittest.TestCase):
    def test_sums_and_differences(self):
        for recipe, other_recipe in itertools.product(MADE, repeat=2):
            tally, other = recipe.tally(), other_recipe.tally()
            for told, sign in [(tally + other, 1), (tally - other, -1)]:
                self.assertIs(type(told), Tally)
                self.assertEqual(
                    [(number, str(group)) for number, group in told.terms],
                    [(number, str(group)) for number, group in tally.terms]
                    + [(sign * number, str(group)) for number, group in other.terms],
                )
            self.assertEqual((str(tally), str(other)), (str(recipe.tally()), str(other_recipe.tally())))

    def test_negated_and_multiplied(self):
        for recipe in MADE:
            tally = recipe.tally()
            for number in (-7, -1, 0, 1, 2, 10 ** 12):
                for told in [tally * number, number * tally, operator.imul(tally, number)] + [-tally] * (number == -1):
                    self.assertIs(type(told), Tally)
                    self.assertEqual(
                        [(many, str(group)) for many, group in told.terms],
                        [(many * number, str(group)) for many, group in tally.terms],
                    )
                    self.assertEqual(told.names, tally.names)
            self.assertEqual(str(tally), str(recipe.tally()))

    def test_written(self):
        self.assertEqual(str(Tally.of(A) * 2 - Tally.of(B | C)), "+ 2 a - | b c")
        self.assertEqual(str(-(Tally.of(A) - 3 * Tally.of(B))), "- a + 3 b")
        self.assertEqual(str(Tally.of(A) * 0 + Tally.of(A)), "+ 0 a + a")
        self.assertEqual(str(-Tally() + Tally() - Tally()), "0")

    def test_in_place(self):
        tally = first = Tally.of(A)
        tally += Tally.of(B)
        tally -= Tally.of(C)
        tally *= 2
        self.assertEqual((str(tally), str(first)), ("+ 2 a + 2 b - 2 c", "+ a"))

    def test_other_operands_of_plus_and_minus(self):
        tally = Tally.of(A)
        for value in [value for value in any_values() if type(value) is not Tally] + [{}, object(), 1.0, b"a", Tally]:
            with self.subTest(value=value):
                for use in (operator.add, operator.sub, operator.iadd, operator.isub):
                    with self.assertRaises(TypeError):
                        use(tally, value)
                    with self.assertRaises(TypeError):
                        use(value, tally)
        with self.assertRaises(TypeError):
            sum([tally, tally])

    def test_other_operands_of_times(self):
        tally = Tally.of(A)
        for value in [value for value in any_values() if type(value) is not int] + [{}, object(), 1.0, b"a"]:
            with self.subTest(value=value):
                for use in (operator.mul, operator.imul):
                    with self.assertRaises(TypeError):
                        use(tally, value)
                    with self.assertRaises(TypeError):
                        use(value, tally)

    def test_other_signs(self):
        for use in (operator.and_, operator.or_, operator.xor, operator.floordiv, operator.mod):
            with self.assertRaises(TypeError):
                use(Tally.of(A), Tally.of(B))
        with self.assertRaises(TypeError):
            +Tally()


class Weights(unittest.TestCase):
    def test_weight(self):
        for recipe in MADE:
            tally = recipe.tally()
            for kind in kinds_over("abcde"):
                expected = recipe.weight(kind)
                for order in itertools.permutations(kind) if len(kind) < 4 else [kind]:
                    self.assertEqual(tally.weight(order), expected)
                    self.assertEqual(tally.weight(list(order)), expected)
            self.assertEqual(tally.weight(kind=["a"]), recipe.weight(("a",)))

    def test_terms_that_repeat_are_added_up(self):
        tally = Tally([(2, A), (3, A), (-1, A | B)])
        self.assertEqual([tally.weight(kind) for kind in kinds("ab")], [0, 4, -1, 4])

    def test_on_a_crowd(self):
        source = random.Random(21)
        crowds = [made_crowd(source, "abcd") for _ in range(20)] + [[], [((), 10 ** 30), (("a", "d"), 10 ** 30)]]
        for recipe in MADE:
            tally = recipe.tally()
            for parts in crowds:
                self.assertEqual(tally.on(Crowd(parts)), recipe.value(added(parts)))
            self.assertEqual(tally.on(crowd=Crowd([((), 2)])), 2 * recipe.weight(()))

    def test_the_row_of_weights(self):
        for recipe in MADE:
            for names in ("abcd", "abcde"):
                self.assertEqual(
                    list(weights(recipe.tally(), list(names))), [recipe.weight(kind) for kind in kinds_over(names)]
                )


class Comparisons(unittest.TestCase):
    def test_tallies_that_are_written_otherwise(self):
        for (at, texts), (other_at, others) in itertools.product(enumerate(SAME), repeat=2):
            for text, other in itertools.product(texts, others):
                same = at == other_at
                self.assertIs(Tally.read(text) == Tally.read(other), same, (text, other))
                self.assertIs(Tally.read(text) != Tally.read(other), not same, (text, other))
                if same:
                    told = [compare(Tally.read(text), Tally.read(other)) for compare in COMPARISONS[:4]]
                    self.assertEqual(told, [True, False, True, False])

    def test_all_comparisons(self):
        ways = kinds_over("abcd")
        made = [(recipe.tally(), [recipe.weight(kind) for kind in ways]) for recipe in MADE]
        made += [(tally + Tally.of(group_of(recipe)), None) for (tally, _), recipe in zip(made, made_recipes(22, 20, 2))]
        made = [(tally, [tally.weight(kind) for kind in ways]) for tally, _ in made]
        for (tally, mine), (other, others) in itertools.product(made, repeat=2):
            below = all(x <= y for x, y in zip(mine, others))
            above = all(x >= y for x, y in zip(mine, others))
            told = [compare(tally, other) for compare in COMPARISONS]
            self.assertEqual(told, [below, below and not above, above, above and not below, mine == others, mine != others])
            self.assertTrue(all(type(answer) is bool for answer in told))

    def test_less_and_more(self):
        self.assertTrue(Tally.of(A & B) < Tally.of(A) < Tally.of(A) + Tally.of(B))
        self.assertTrue(Tally.of(A) >= Tally() > -Tally.of(A))
        self.assertFalse(Tally.of(A) <= Tally.of(B) or Tally.of(A) >= Tally.of(B) or Tally.of(A) == Tally.of(B))
        self.assertFalse(Tally.of(A) * 2 == Tally.of(A))
        self.assertFalse(Tally.of(A - A) < Tally() or Tally.of(A - A) > Tally())

    def test_values_that_are_no_tallies(self):
        for tally in [Tally(), Tally.of(A)]:
            for value in [value for value in any_values() if type(value) is not Tally] + [object(), Tally]:
                with self.subTest(value=value):
                    self.assertIs(tally == value, False)
                    self.assertIs(value == tally, False)
                    self.assertIs(tally != value, True)
                    for compare in COMPARISONS[:4]:
                        with self.assertRaises(TypeError):
                            compare(tally, value)
                        with self.assertRaises(TypeError):
                            compare(value, tally)


if __name__ == "__main__":
    unittest.main()
