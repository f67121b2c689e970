"""[7]: names, who is in a group, groups in the place of names, comparisons."""

import itertools
import operator
import unittest

from mostcrowds.groups import Group, table
from mostcrowds.kinds import kinds
from tests.recipes import (
    ONE_LEVEL,
    TWO_LEVELS,
    all_kinds,
    group_of,
    has,
    made_recipes,
    members,
    names_of,
    put,
    text_of,
)

A, B, C = [Group.named(name) for name in ("a", "b", "c")]
EVERY, NOTHING = Group.every(), Group.nothing()
RECIPES = ONE_LEVEL + TWO_LEVELS + made_recipes(1, 60, 4)


class Names(unittest.TestCase):
    def test_each_recipe(self):
        for recipe in RECIPES:
            names = group_of(recipe).names
            self.assertIs(type(names), tuple)
            self.assertEqual(names, tuple(sorted(names_of(recipe))), text_of(recipe))

    def test_none(self):
        for group in [EVERY, NOTHING, ~EVERY, EVERY - NOTHING, Group.at_least(0, []), Group.at_least(3, [EVERY])]:
            self.assertEqual(group.names, ())

    def test_ascending_as_strings(self):
        names = ["b", "abcd", "ab", "z", "a", "b"]
        self.assertEqual(Group.at_least(1, [Group.named(name) for name in names]).names, ("a", "ab", "abcd", "b", "z"))

    def test_names_that_do_not_matter_are_names(self):
        self.assertEqual((A - A).names, ("a",))
        self.assertEqual((B | EVERY).names, ("b",))
        self.assertEqual(Group.at_least(0, [C, A]).names, ("a", "c"))
        self.assertEqual(Group.at_least(9, [C, A]).names, ("a", "c"))


class Has(unittest.TestCase):
    def test_each_recipe(self):
        for recipe in RECIPES:
            group = group_of(recipe)
            for kind in all_kinds("abc"):
                told = group.has(sorted(kind))
                self.assertIs(type(told), bool)
                self.assertEqual(told, has(recipe, kind), (text_of(recipe), kind))

    def test_any_order_as_list_and_as_tuple(self):
        group = (A & B) - C
        for kind in itertools.permutations(["a", "b", "d"]):
            self.assertIs(group.has(kind), True)
            self.assertIs(group.has(list(kind)), True)
        for kind in itertools.permutations(["a", "b", "c"]):
            self.assertIs(group.has(kind), False)
            self.assertIs(group.has(list(kind)), False)

    def test_other_names_mean_nothing(self):
        for recipe in ONE_LEVEL:
            group = group_of(recipe)
            for kind in all_kinds("abc"):
                told = group.has(tuple(kind))
                self.assertEqual(group.has(tuple(kind) + ("d", "aa", "zzzz")), told)
                self.assertEqual(group.has(["name", "b a"] + list(kind)), told)

    def test_a_name_that_is_not_in_the_kind(self):
        self.assertIs(A.has([]), False)
        self.assertIs((~A).has(["b"]), True)
        self.assertIs((B - A).has(["b"]), True)

    def test_the_kind_is_left_as_it_was(self):
        kind = ["c", "a"]
        (A & B).has(kind)
        self.assertEqual(kind, ["c", "a"])

    def test_by_the_name_of_the_parameter(self):
        self.assertIs(A.has(kind=["a"]), True)


class Put(unittest.TestCase):
    def assert_put(self, recipe, others):
        expected = put(recipe, others)
        told = group_of(recipe).put({name: group_of(other) for name, other in others.items()})
        self.assertIs(type(told), Group)
        self.assertEqual(str(told), text_of(expected))
        self.assertEqual(told.names, tuple(sorted(names_of(expected))))
        for kind in all_kinds("abcd"):
            self.assertEqual(told.has(tuple(kind)), has(expected, kind), text_of(expected))

    def test_each_recipe(self):
        for recipe in ONE_LEVEL + made_recipes(2, 40, 3):
            for others in [
                {},
                {"a": "b"},
                {"b": ("~", "b")},
                {"a": "b", "b": "a"},
                {"a": "b", "b": "c", "c": "a"},
                {"a": ("&", "b", "c"), "c": ("at", 2, ["a", "b", "d"])},
                {"a": ("none",), "b": ("all",), "d": "a"},
            ]:
                self.assert_put(recipe, others)

    def test_names_that_stand_in_what_is_put_in_stay(self):
        self.assertEqual(str((A & B).put({"a": B, "b": A})), "& b a")
        self.assertEqual(str((A - B).put({"a": A | B, "b": A & B})), "- | a b & a b")
        self.assertEqual(str(A.put({"a": A & A})), "& a a")

    def test_names_that_are_not_put_stay(self):
        self.assertEqual(str((A & (B | C)).put({"b": EVERY})), "& a | all c")
        self.assertEqual(str(A.put({"b": EVERY})), "a")
        self.assertEqual(str(EVERY.put({"a": NOTHING})), "all")

    def test_names_that_are_not_in_the_group_mean_nothing(self):
        told = (A | B).put({"c": NOTHING, "d": C, "zz": EVERY})
        self.assertEqual((str(told), told.names), ("| a b", ("a", "b")))

    def test_a_name_that_stands_several_times(self):
        self.assertEqual(str(Group.at_least(2, [A, B, A, ~A]).put({"a": B ^ C})), "at 2 4 ^ b c b ^ b c ~ ^ b c")

    def test_what_was_used_stays(self):
        group, other = A & B, B | C
        groups = {"a": other, "b": EVERY}
        told = group.put(groups)
        groups["a"] = NOTHING
        del groups["b"]
        self.assertEqual(str(told), "& | b c all")
        self.assertEqual((str(group), group.names), ("& a b", ("a", "b")))
        self.assertEqual((str(other), other.names), ("| b c", ("b", "c")))

    def test_the_dict_is_left_as_it_was(self):
        groups = {"b": A, "a": C}
        (A & B).put(groups)
        self.assertEqual([(name, str(group)) for name, group in groups.items()], [("b", "a"), ("a", "c")])

    def test_put_several_times(self):
        group = A & B
        for _ in range(20):
            group = group.put({"a": ~A, "b": B | A})
        self.assertIs(group.has(["a"]), True)
        self.assertIs(group.has(["b"]), False)
        self.assertIs(group.has([]), False)

    def test_by_the_name_of_the_parameter(self):
        self.assertEqual(str(A.put(groups={"a": B})), "b")


COMPARISONS = [operator.le, operator.lt, operator.ge, operator.gt, operator.eq, operator.ne]
SAME = [
    ["& a b", "& b a", "- a ~ b", "- a - a b", "at 2 2 a b", "~ | ~ a ~ b", "& & a b | c ~ c"],
    ["| a b", "| b a", "at 1 2 a b", "~ & ~ a ~ b", "^ ^ a b & a b", "| a - b a"],
    ["a", "& a a", "| a a", "~ ~ a", "at 1 1 a", "^ a none", "| & a b - a b", "& a all", "at 2 2 a a"],
    ["~ a", "- all a", "^ all a", "^ a all", "at 1 1 ~ a"],
    ["all", "~ none", "| a ~ a", "at 0 0", "at 0 2 a b", "| all c", "^ b ~ b"],
    ["none", "~ all", "- a a", "^ b b", "at 1 0", "at 3 2 a b", "& c ~ c", "& none a"],
    ["at 2 3 a b c", "| | & a b & a c & b c", "~ at 2 3 ~ a ~ b ~ c", "at 2 3 c a b"],
    ["^ a b", "- | a b & a b", "| - a b - b a", "^ b a"],
]


class Comparisons(unittest.TestCase):
    def test_groups_that_are_written_otherwise_but_say_the_same(self):
        for texts in SAME:
            for text, other in itertools.product(texts, repeat=2):
                group, same = Group.read(text), Group.read(other)
                with self.subTest(text=text, other=other):
                    told = [compare(group, same) for compare in COMPARISONS]
                    self.assertEqual(told, [True, False, True, False, True, False])

    def test_groups_that_say_something_else(self):
        for texts, others in itertools.permutations(SAME, 2):
            for text, other in itertools.product(texts, others):
                self.assertIs(Group.read(text) == Group.read(other), False, (text, other))
                self.assertIs(Group.read(text) != Group.read(other), True, (text, other))

    def test_all_comparisons_of_all_recipes(self):
        recipes = ONE_LEVEL + made_recipes(3, 40, 3, "abcd")
        names = "abcd"
        groups = [(group_of(recipe), members(recipe, names)) for recipe in recipes]
        for (group, mine), (other, others) in itertools.product(groups, repeat=2):
            for compare in COMPARISONS:
                told = compare(group, other)
                self.assertIs(type(told), bool)
                self.assertEqual(told, compare(mine, others), (str(group), compare, str(other)))

    def test_more_and_fewer(self):
        self.assertTrue(A & B < A < A | B)
        self.assertTrue(A | B > A > A & B)
        self.assertTrue(NOTHING <= A <= EVERY)
        self.assertTrue(NOTHING < A < EVERY)
        self.assertFalse(A <= B or A >= B or A < B or A > B or A == B)
        self.assertFalse(A < A or A > A)

    def test_names_of_one_group_alone_count(self):
        self.assertFalse(A == Group.named("aa"))
        self.assertFalse(A <= A & C)
        self.assertTrue(A & C <= A)
        self.assertTrue(Group.at_least(0, [A]) == Group.at_least(0, [B, C]))

    def test_many_names(self):
        named = [Group.named(name) for name in "abcdefghij"]
        some = Group.at_least(1, named[:8]) | named[8] | named[9]
        nobody = ~some
        self.assertTrue(some > named[9] and named[0] < some)
        self.assertEqual(nobody & some, NOTHING)
        self.assertEqual(nobody, ~Group.at_least(1, named))

    def test_values_that_are_no_groups(self):
        for value in [0, 1, True, False, None, "a", "", [], [A], (), (A,), {}, object(), Group, "all"]:
            with self.subTest(value=value):
                self.assertIs(A == value, False)
                self.assertIs(value == A, False)
                self.assertIs(A != value, True)
                self.assertIs(EVERY == value, False)
                self.assertIs(NOTHING == value, False)
                for compare in COMPARISONS[:4]:
                    with self.assertRaises(TypeError):
                        compare(A, value)
                    with self.assertRaises(TypeError):
                        compare(value, A)


class Truth(unittest.TestCase):
    def test_each_recipe(self):
        for recipe in RECIPES:
            self.assertEqual(bool(group_of(recipe)), members(recipe, "abc") != set(), text_of(recipe))

    def test_those_in_no_named_group_count(self):
        self.assertIs(bool(~(A | B)), True)

    def test_nobody(self):
        for texts in SAME:
            for text in texts:
                self.assertIs(bool(Group.read(text)), "none" not in texts, text)


class Tables(unittest.TestCase):
    def test_a_digit_for_each_kind(self):
        for names in ["abc", "abcd", "aabbc", ["a", "aa", "b", "bb", "c"]]:
            told = kinds(list(names))
            ordered = sorted(set(names))
            for recipe in ONE_LEVEL + made_recipes(6, 20, 3):
                expected = sum(2 ** number for number, kind in enumerate(told) if has(recipe, kind))
                self.assertEqual(table(group_of(recipe), ordered), expected)


class Unchanged(unittest.TestCase):
    def test_groups_that_were_used_stay(self):
        recipes = ONE_LEVEL + made_recipes(4, 15, 3)
        groups = [group_of(recipe) for recipe in recipes]
        for group, other in itertools.product(groups, repeat=2):
            for use in COMPARISONS + [operator.and_, operator.or_, operator.sub, operator.xor]:
                use(group, other)
            bool(group)
            group.has(["a", "c"])
            group.put({"a": other, "b": group})
            Group.at_least(1, [group, other, group])
        for recipe, group in zip(recipes, groups):
            self.assertEqual(str(group), text_of(recipe))
            self.assertEqual(group.names, tuple(sorted(names_of(recipe))))
            for kind in all_kinds("abc"):
                self.assertEqual(group.has(tuple(kind)), has(recipe, kind))


if __name__ == "__main__":
    unittest.main()
