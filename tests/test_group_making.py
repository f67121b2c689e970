"""[6]: how groups are made and what is refused."""

import operator
import unittest

from mostcrowds.errors import InvalidGroup, InvalidName
from mostcrowds.groups import Group
from mostcrowds.kinds import kinds

A, B, C = [Group.named(name) for name in ("a", "b", "c")]
SIGNS = [operator.and_, operator.or_, operator.sub, operator.xor]
IN_PLACE = [operator.iand, operator.ior, operator.isub, operator.ixor]
BARRED = ["all", "none", "at", "if", "else", "end", "say", "stop"]
NO_NAMES = BARRED + [
    "", " ", "abcde", "A", "aB", "Abc", "a b", "a ", " a", "a1", "1", "a_", "_", "~", "a\n", "\n", "a-b", "say ", "a" * 500,
    "\u00e4", "\u0430", "\u00aa", 0, 1, -1, 10 ** 30, True, False, None, [], ["a"], ["a", "b"], (), ("a",), [[["a"]]],
    Group.named("a"), [Group.named("a")], object(), b"a",
]


def members(group):
    return {kind for kind in kinds(["a", "b", "c"]) if group.has(kind)}


def meant(test):
    return {kind for kind in kinds(["a", "b", "c"]) if test(set(kind))}


class Named(unittest.TestCase):
    def test_names(self):
        for name in ["a", "z", "ab", "abc", "abcd", "zzzz", "als", "al", "alls", "nono", "i", "att", "ends", "sto"]:
            group = Group.named(name)
            self.assertIs(type(group), Group)
            self.assertEqual(group.names, (name,))
            self.assertIs(group.has([name]), True)
            self.assertIs(group.has([]), False)

    def test_values_that_are_no_names(self):
        for value in NO_NAMES:
            with self.subTest(value=value):
                with self.assertRaises(InvalidName) as caught:
                    Group.named(value)
                self.assertIs(type(caught.exception), InvalidName)
                self.assertIs(caught.exception.name, value)

    def test_by_the_name_of_the_parameter(self):
        self.assertEqual(str(Group.named(name="ab")), "ab")


class EveryAndNothing(unittest.TestCase):
    def test_every(self):
        self.assertEqual(members(Group.every()), meant(lambda kind: True))

    def test_nothing(self):
        self.assertEqual(members(Group.nothing()), set())


class AtLeast(unittest.TestCase):
    def test_numbers_up_to_more_than_there_are_groups(self):
        for number in range(6):
            for groups in ([A, B, C], (A, B, C)):
                told = members(Group.at_least(number, groups))
                self.assertEqual(told, meant(lambda kind: len(kind) >= number), number)

    def test_number_zero(self):
        self.assertEqual(Group.at_least(0, []), Group.every())
        self.assertEqual(Group.at_least(0, [A]), Group.every())
        self.assertEqual(Group.at_least(0, [Group.nothing(), A, B]), Group.every())

    def test_no_groups(self):
        self.assertEqual(members(Group.at_least(0, ())), meant(lambda kind: True))
        self.assertEqual(members(Group.at_least(1, [])), set())
        self.assertEqual(members(Group.at_least(30, ())), set())

    def test_number_above_the_groups(self):
        self.assertEqual(members(Group.at_least(2, [A])), set())
        self.assertEqual(members(Group.at_least(30, [A, B, C])), set())
        self.assertEqual(members(Group.at_least(10 ** 6, [Group.every()])), set())

    def test_a_group_that_stands_several_times_counts_as_often(self):
        self.assertEqual(members(Group.at_least(2, [A, A])), members(A))
        self.assertEqual(members(Group.at_least(2, [A, A, B])), members(A))
        self.assertEqual(Group.at_least(3, [A, A, B, C]), A & (B | C))
        self.assertEqual(Group.at_least(8, [A] * 8), A)

    def test_eight_groups(self):
        names = "abcdefgh"
        groups = [Group.named(name) for name in names]
        for number in range(10):
            group = Group.at_least(number, groups)
            for kind in kinds(list(names)):
                self.assertEqual(group.has(kind), len(kind) >= number)

    def test_groups_of_all_sorts(self):
        group = Group.at_least(2, [A & B, ~C, Group.every()])
        self.assertEqual(members(group), meant(lambda kind: kind >= {"a", "b"} or "c" not in kind))

    def test_the_list_is_changed_after_the_call(self):
        groups = [A, B]
        group = Group.at_least(1, groups)
        groups[0] = C
        groups.append(Group.every())
        self.assertEqual(str(group), "at 1 2 a b")
        self.assertEqual(members(group), members(A | B))

    def test_the_list_is_left_as_it_was(self):
        groups = [A, B, A]
        Group.at_least(1, groups)
        self.assertEqual([str(group) for group in groups], ["a", "b", "a"])

    def test_by_the_names_of_the_parameters(self):
        self.assertEqual(str(Group.at_least(groups=[A], number=1)), "at 1 1 a")


NO_NUMBERS = [-1, -10 ** 20, True, False, None, "", "1", "a", [], [1], (), (1,), ((1,),), A, [A], object()]
NO_GROUPS = [
    None, 0, 1, True, False, "", "a", "ab", A, Group.nothing(), ["a"], [A, "b"], ["a", B], [A, None], (A, 1), (True,), [[A]],
    [(A, B)], ((),), [[]], [None], object(),
]


class AtLeastRefused(unittest.TestCase):
    def assert_refused(self, word, number, groups):
        with self.subTest(number=number, groups=groups):
            with self.assertRaises(InvalidGroup) as caught:
                Group.at_least(number, groups)
            self.assertIs(type(caught.exception), InvalidGroup)
            self.assertEqual(caught.exception.word, word)

    def test_numbers(self):
        for number in NO_NUMBERS:
            for groups in ([], [A], (A, B)):
                self.assert_refused("number", number, groups)

    def test_groups(self):
        for groups in NO_GROUPS:
            for number in (0, 1, 30):
                self.assert_refused("groups", number, groups)

    def test_the_number_comes_first(self):
        for number in NO_NUMBERS:
            for groups in NO_GROUPS:
                self.assert_refused("number", number, groups)


class Signs(unittest.TestCase):
    def test_as_for_sets(self):
        made = [A, B, C, Group.every(), Group.nothing(), ~A, A & B, B ^ C, Group.at_least(2, [A, B, C])]
        for sign in SIGNS:
            for group in made:
                for other in made:
                    told = sign(group, other)
                    self.assertIs(type(told), Group)
                    self.assertEqual(members(told), sign(members(group), members(other)), (sign, str(told)))

    def test_all_others(self):
        everyone = members(Group.every())
        for group in [A, Group.every(), Group.nothing(), A & B, ~A, Group.at_least(1, [A, B])]:
            self.assertIs(type(~group), Group)
            self.assertEqual(members(~group), everyone - members(group))

    def test_all_others_are_also_those_in_no_named_group(self):
        self.assertIs((~A).has(()), True)
        self.assertIs((~A).has(("b",)), True)
        self.assertIs((~A).has(("a", "b")), False)

    def test_operands_that_are_no_groups(self):
        others = [0, 1, True, False, None, "a", "", [], [A], (), (A,), {"a"}, set(), {"a": A}, object(), Group]
        for sign in SIGNS + IN_PLACE:
            for other in others:
                with self.subTest(sign=sign, other=other):
                    with self.assertRaises(TypeError):
                        sign(A, other)
                    with self.assertRaises(TypeError):
                        sign(other, A)

    def test_other_signs_are_not_known(self):
        for sign in [operator.add, operator.mul, operator.mod, operator.floordiv, operator.lshift]:
            with self.assertRaises(TypeError):
                sign(A, B)
        with self.assertRaises(TypeError):
            -A

    def test_in_place_makes_a_new_one(self):
        for sign, in_place in zip(SIGNS, IN_PLACE):
            group = kept = A | C
            group = in_place(group, B)
            self.assertEqual(str(group), str(sign(A | C, B)))
            self.assertIsNot(group, kept)
            self.assertEqual((str(kept), kept.names), ("| a c", ("a", "c")))

    def test_operands_stay_as_they_were(self):
        left, right = A & B, Group.at_least(1, [B, C])
        for sign in SIGNS:
            sign(left, right)
            sign(right, left)
        ~left
        self.assertEqual((str(left), left.names), ("& a b", ("a", "b")))
        self.assertEqual((str(right), right.names), ("at 1 2 b c", ("b", "c")))
        self.assertEqual(members(left), meant(lambda kind: kind >= {"a", "b"}))

    def test_the_same_group_on_both_sides(self):
        self.assertEqual(members(A & A), members(A))
        self.assertEqual(members(A | A), members(A))
        self.assertEqual(members(A - A), set())
        self.assertEqual(members(A ^ A), set())


class Conventions(unittest.TestCase):
    def test_groups_are_not_iterable(self):
        for group in (A, A & B, Group.every(), Group.at_least(1, [A, B])):
            with self.assertRaises(TypeError):
                iter(group)
            with self.assertRaises(TypeError):
                list(group)
            with self.assertRaises(TypeError):
                "a" in group

    def test_the_methods_stand_in_the_class_itself(self):
        for name in ["named", "every", "nothing", "at_least", "read", "has", "put"] + [
            f"__{word}__" for word in "and or sub xor invert le lt ge gt eq bool str".split()
        ]:
            self.assertIn(name, vars(Group))
        self.assertEqual(Group.__module__, "mostcrowds.groups")

    def test_groups_eight_deep_with_eight_parts(self):
        group = A
        for depth in range(8):
            group = Group.at_least(1 + depth, [group] * 8)
        self.assertEqual(group.names, ("a",))
        self.assertIs(group.has(["a"]), True)
        self.assertEqual(group, A)

    def test_signs_far_deeper_than_the_limit(self):
        group = A
        for _ in range(400):
            group = ~(group & B) ^ B
        self.assertEqual(group.names, ("a", "b"))
        self.assertIs(group.has(["a", "b"]), True)
        self.assertEqual(Group.read(str(group)), group)


if __name__ == "__main__":
    unittest.main()
