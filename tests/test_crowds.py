"""[9] and [10]: how crowds are made, counted, added and multiplied."""

import itertools
import operator
import random
import unittest

from mostcrowds.crowds import Crowd
from mostcrowds.errors import CrowdError, InvalidCrowd
from mostcrowds.groups import Group

from tests.recipes import ONE_LEVEL, group_of, has, made_recipes
from tests.values import A, B, any_values, is_a_name

HUGE = 10 ** 30 + 7

NO_PARTS = [
    None, 0, 1, True, "a", "", "ab", A, Crowd(), [], (), [("a",), 1], [(), 0], ("a",), (("a",),), (("a",), 1, 2), ((), 1, ()),
    ("a", 1), ("ab", 1), ("", 0), (None, 1), (1, 1), (True, 1), (A, 1), (Crowd(), 1), ({}, 1), (1, ("a",)),
    (("all",), 1), (("abcde",), 1), (("",), 1), (("A",), 1), (("a b",), 1), ((1,), 1), ((None,), 1), ((A,), 1), ((("a",),), 1),
    ((["a"],), 1), (("a", "a"), 1), (["b", "a", "b"], 1), (("a", "none"), 1), (["a", True], 1), ((True, True), 1),
    (("a",), True), (("a",), False), (("a",), -1), (("a",), -HUGE), (("a",), "1"), (("a",), None), (("a",), ()), (("a",), [1]),
    ((), A), ((), (1,)), (("a",), ("b",)), ((), Crowd()),
]
MADE = [
    ([], (), 0),
    ((), (), 0),
    ([((), 0)], (), 0),
    ([((), 1)], (((), 1),), 1),
    ([(("a",), 2)], ((("a",), 2),), 2),
    ([(["a"], 2)], ((("a",), 2),), 2),
    ((("ba", 1),)[:0], (), 0),
    ([(("b", "a"), 3), ((), 1), (["c"], 2)], (((), 1), (("a", "b"), 3), (("c",), 2)), 6),
    ([(("a",), 2), (("a",), 3), (["a"], 0)], ((("a",), 5),), 5),
    ([(("a", "b"), 2), (["b", "a"], 3), (("b", "a"), HUGE)], ((("a", "b"), HUGE + 5),), HUGE + 5),
    (((("c",), 1), (("b",), 1), (("a",), 1)), ((("a",), 1), (("b",), 1), (("c",), 1)), 3),
    ([(("b",), 1), (("a", "z"), 2), (("a",), 3), (("a", "b", "c"), 4), ((), 5)],
     (((), 5), (("a",), 3), (("a", "b", "c"), 4), (("a", "z"), 2), (("b",), 1)), 15),
    ([(("aa", "a"), 1), (("ab",), 0), (("b", "aa"), 1)], ((("a", "aa"), 1), (("aa", "b"), 1)), 2),
    ([(("zzzz",), HUGE), ((), HUGE)], (((), HUGE), (("zzzz",), HUGE)), 2 * HUGE),
]


def made_crowd(source, names="abc", most=5):
    parts = []
    for _ in range(source.randrange(6)):
        kind = [name for name in names if source.random() < 0.5]
        source.shuffle(kind)
        parts.append((source.choice([list, tuple])(kind), source.randrange(most)))
    return parts


def is_a_part(value):
    if type(value) is not tuple or len(value) != 2 or type(value[1]) is not int or value[1] < 0:
        return False
    kind = value[0]
    return type(kind) in (list, tuple) and all(map(is_a_name, kind)) and len(set(kind)) == len(kind)


def added(parts):
    """What parts come to, worked out in the plainest way."""
    many = {}
    for kind, number in parts:
        key = tuple(sorted(kind))
        many[key] = many.get(key, 0) + number
    return tuple(sorted(pair for pair in many.items() if pair[1] > 0))


class Made(unittest.TestCase):
    def test_parts_and_size(self):
        for parts, expected, size in MADE:
            with self.subTest(parts=parts):
                crowd = Crowd(parts)
                self.assertEqual(crowd.parts, expected)
                self.assertEqual([type(row) for row in (crowd.parts, *crowd.parts)], [tuple] * (len(expected) + 1))
                self.assertTrue(all(type(kind) is tuple for kind, _ in crowd.parts))
                self.assertEqual((crowd.size, len(crowd)), (size, len(expected)))
                self.assertIs(bool(crowd), size > 0)

    def test_without_an_argument_and_by_its_name(self):
        self.assertEqual(Crowd().parts, ())
        self.assertEqual(Crowd(parts=[(("a",), 1)]).parts, ((("a",), 1),))

    def test_many_made_ones(self):
        source = random.Random(9)
        for _ in range(300):
            parts = made_crowd(source)
            self.assertEqual(Crowd(parts).parts, added(parts))
            self.assertEqual(Crowd(tuple(parts)).parts, added(parts))
            self.assertEqual(Crowd(parts).size, sum(number for _, number in parts))

    def test_the_order_of_the_parts_means_nothing(self):
        parts = [(("a",), 1), ((), 2), (("b", "a"), 3), (["a"], 4)]
        for order in itertools.permutations(parts):
            self.assertEqual(Crowd(order).parts, (((), 2), (("a",), 5), (("a", "b"), 3)))

    def test_lists_that_are_changed_after_the_call(self):
        kind = ["b", "a"]
        parts = [(kind, 3), ((), 1)]
        crowd = Crowd(parts)
        parts.append((("c",), 1))
        parts[0] = None
        kind.append("c")
        self.assertEqual((crowd.parts, crowd.size), ((((), 1), (("a", "b"), 3)), 4))

    def test_the_argument_is_left_as_it_was(self):
        kind = ["b", "a"]
        parts = [(kind, 3), (("b",), 0), (kind, 1)]
        Crowd(parts)
        self.assertEqual((parts, kind), ([(["b", "a"], 3), (("b",), 0), (["b", "a"], 1)], ["b", "a"]))


class Refused(unittest.TestCase):
    def assert_refused(self, parts, at):
        with self.assertRaises(InvalidCrowd) as caught:
            Crowd(parts)
        self.assertIs(type(caught.exception), InvalidCrowd)
        self.assertEqual(caught.exception.at, at)

    def test_no_part(self):
        good = [(("a",), 1), ([], 0), (["b", "a"], HUGE)]
        for value in NO_PARTS:
            for at in range(4):
                for make in (list, tuple):
                    with self.subTest(value=value, at=at):
                        self.assert_refused(make(good[:at] + [value] + good[at:]), at)

    def test_any_value_as_a_part(self):
        for value in any_values():
            if not is_a_part(value):
                self.assert_refused([((), 1), value], 1)
                self.assert_refused((value,), 0)

    def test_any_value_as_a_kind_or_a_number(self):
        for value in any_values():
            with self.subTest(value=value):
                if not is_a_part((value, 1)):
                    self.assert_refused([((), 1), (value, 1)], 1)
                if not is_a_part(((), value)):
                    self.assert_refused([((), 1), ((), value)], 1)
                self.assert_refused([((value, "a", "a"), 1)], 0)
                if not is_a_part(((value,), 1)):
                    self.assert_refused([((), 1), ((), 1), (["ab", value], 1)], 2)

    def test_the_first_wrong_part_counts(self):
        self.assert_refused([(("a",), 1), (("a",), -1), 7], 1)
        self.assert_refused([None, (("a",), -1)], 0)
        self.assert_refused([(("a", "a"), 0), (("a",), 0), 3], 0)

    def test_what_is_no_sequence(self):
        for value in any_values():
            if type(value) not in (list, tuple):
                self.assert_refused(value, 0)
        for value in [{}, {("a",): 1}, set(), iter([]), object(), range(0), b""]:
            self.assert_refused(value, 0)

    def test_it_is_a_crowd_error(self):
        with self.assertRaises(CrowdError):
            Crowd([1])
        with self.assertRaises(ValueError):
            Crowd(3)


class Index(unittest.TestCase):
    def test_kinds_with_and_without_members(self):
        crowd = Crowd([(("b", "a"), 3), ((), 1), (["c"], HUGE)])
        for kind, many in [
            ((), 1), ([], 1), (("a", "b"), 3), (("b", "a"), 3), (["b", "a"], 3), (["a", "b"], 3), (("c",), HUGE), (["c"], HUGE),
            (("a",), 0), (["b"], 0), (("a", "c"), 0), (("a", "b", "c"), 0), (("zz",), 0), (["c", "zz"], 0),
        ]:
            self.assertEqual(crowd[kind], many, kind)
            self.assertIs(type(crowd[kind]), int)

    def test_several_names_without_brackets(self):
        crowd = Crowd([(("a", "b"), 3)])
        self.assertEqual((crowd["b", "a"], crowd["a", "c"]), (3, 0))

    def test_the_empty_crowd(self):
        for kind in [(), [], ("a",), ["b", "a"]]:
            self.assertEqual(Crowd()[kind], 0)

    def test_the_kind_is_left_as_it_was(self):
        kind = ["b", "a"]
        Crowd([(kind, 1)])[kind]
        self.assertEqual(kind, ["b", "a"])

    def test_crowds_are_not_iterable(self):
        for crowd in [Crowd(), Crowd([((), 1)])]:
            for use in (iter, list, tuple, set, sorted, lambda it: [*it], lambda it: 1 in it, lambda it: () in it):
                with self.assertRaises(TypeError):
                    use(crowd)


class Equal(unittest.TestCase):
    def test_by_their_parts(self):
        crowds = [[Crowd(parts) for parts in (made, made[::-1])] for made, _, _ in MADE]
        for (at, mine), (other_at, others) in itertools.product(enumerate(crowds), repeat=2):
            same = MADE[at][1] == MADE[other_at][1]
            for crowd, other in itertools.product(mine, others):
                self.assertIs(crowd == other, same)
                self.assertIs(crowd != other, not same)

    def test_names_of_no_member_are_not_there(self):
        self.assertEqual(Crowd([(("a",), 0), (("b",), 1)]), Crowd([(("b",), 1)]))
        self.assertNotEqual(Crowd([((), 1)]), Crowd())
        self.assertNotEqual(Crowd([(("a",), 1)]), Crowd([(("a",), 2)]))
        self.assertNotEqual(Crowd([(("a",), 1)]), Crowd([(("b",), 1)]))

    def test_values_that_are_no_crowds(self):
        for crowd in [Crowd(), Crowd([(("a",), 1)])]:
            for value in [value for value in any_values() if type(value) is not Crowd] + [crowd.parts, list(crowd.parts), str(crowd)]:
                self.assertIs(crowd == value, False)
                self.assertIs(value == crowd, False)
                self.assertIs(crowd != value, True)

    def test_there_is_no_order(self):
        for compare in (operator.lt, operator.le, operator.gt, operator.ge):
            with self.assertRaises(TypeError):
                compare(Crowd(), Crowd())


class Counted(unittest.TestCase):
    def test_count_and_only(self):
        source = random.Random(10)
        crowds = [made_crowd(source, most=9) for _ in range(12)] + [[], [((), HUGE), (("a", "c"), HUGE), (("b",), 1)]]
        for recipe in ONE_LEVEL + made_recipes(11, 40, 3):
            group = group_of(recipe)
            for parts in crowds:
                crowd = Crowd(parts)
                inside = tuple((kind, many) for kind, many in added(parts) if has(recipe, kind))
                self.assertEqual(crowd.count(group), sum(many for _, many in inside))
                only = crowd.only(group)
                self.assertIs(type(only), Crowd)
                self.assertEqual((only.parts, only.size), (inside, sum(many for _, many in inside)))
                self.assertEqual(crowd.parts, added(parts))

    def test_by_the_name_of_the_parameter(self):
        crowd = Crowd([(("a", "b"), 2), (("a",), 1), ((), 4)])
        self.assertEqual((crowd.count(group=A), crowd.count(group=~A)), (3, 4))
        self.assertEqual(crowd.only(group=A - B), Crowd([(("a",), 1)]))

    def test_names_that_are_not_in_the_crowd(self):
        crowd = Crowd([(("a",), 2)])
        self.assertEqual((crowd.count(Group.named("zz")), crowd.count(~Group.named("zz"))), (0, 2))
        self.assertEqual(crowd.only(Group.named("zz")), Crowd())


class SideBySide(unittest.TestCase):
    def test_sums(self):
        source = random.Random(12)
        made = [made_crowd(source) for _ in range(30)]
        for parts, others in itertools.product(made, repeat=2):
            crowd, other = Crowd(parts), Crowd(others)
            total = crowd + other
            self.assertIs(type(total), Crowd)
            self.assertEqual((total.parts, total.size), (added(parts + others), crowd.size + other.size))
            self.assertEqual((crowd.parts, other.parts), (added(parts), added(others)))

    def test_in_place(self):
        crowd = first = Crowd([(("a",), 1)])
        crowd += Crowd([(("a",), 2), ((), 1)])
        self.assertEqual(crowd.parts, (((), 1), (("a",), 3)))
        self.assertEqual((first.parts, first.size), (((("a",), 1),), 1))
        self.assertIsNot(crowd, first)

    def test_other_operands(self):
        crowd = Crowd([(("a",), 1)])
        for value in [value for value in any_values() if type(value) is not Crowd] + [{}, set(), object(), Crowd, b"a", 1.5]:
            with self.subTest(value=value):
                for use in (operator.add, operator.iadd):
                    with self.assertRaises(TypeError):
                        use(crowd, value)
                    with self.assertRaises(TypeError):
                        use(value, crowd)
        self.assertEqual(crowd.parts, ((("a",), 1),))


class Multiplied(unittest.TestCase):
    def test_on_either_side_and_in_place(self):
        source = random.Random(13)
        made = [made_crowd(source) for _ in range(20)] + [[], [(("a",), HUGE), ((), 3)]]
        for parts in made:
            for number in (0, 1, 2, 3, 10, 999, 1000):
                crowd = Crowd(parts)
                expected = added([(kind, many * number) for kind, many in parts])
                for told in (crowd * number, number * crowd, operator.imul(crowd, number)):
                    self.assertIs(type(told), Crowd)
                    self.assertEqual((told.parts, told.size), (expected, crowd.size * number))
                self.assertEqual(crowd.parts, added(parts))

    def test_in_place_a_new_crowd_is_told(self):
        crowd = first = Crowd([(("a",), 1)])
        crowd *= 3
        self.assertEqual((crowd.parts, first.parts), (((("a",), 3),), ((("a",), 1),)))
        crowd *= 0
        self.assertEqual(crowd, Crowd())

    def test_like_adding(self):
        crowd = Crowd([(("a",), 1), ((), 2)])
        self.assertEqual(crowd * 3, crowd + crowd + crowd)

    def test_other_operands(self):
        crowd = Crowd([(("a",), 1)])
        wrong = [1001, 1002, -1, -1000, 10 ** 30, True, False, None, "a", "", [], [1], (), (1,), A, Crowd(), crowd, {}, 1.0, 0.5]
        wrong += [value for value in any_values() if type(value) is not int]
        for value in wrong:
            with self.subTest(value=value):
                for use in (operator.mul, operator.imul):
                    with self.assertRaises(TypeError):
                        use(crowd, value)
                    with self.assertRaises(TypeError):
                        use(value, crowd)
        self.assertEqual(crowd.parts, ((("a",), 1),))

    def test_other_signs(self):
        for use in (operator.sub, operator.floordiv, operator.and_, operator.or_, operator.xor):
            with self.assertRaises(TypeError):
                use(Crowd(), Crowd())
        with self.assertRaises(TypeError):
            -Crowd()


if __name__ == "__main__":
    unittest.main()
