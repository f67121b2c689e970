"""[5]: kinds, and what [2] says of them."""

import itertools
import unittest

from mostcrowds.kinds import kinds

NAMES = ["a", "ab", "b", "c", "zzzz"]


def expected(names):
    ordered = sorted(set(names))
    found = []
    for number in range(2 ** len(ordered)):
        found.append(tuple(name for at, name in enumerate(ordered) if number // 2 ** at % 2 == 1))
    return tuple(found)


class Kinds(unittest.TestCase):
    def test_the_document_says_so(self):
        self.assertEqual(kinds(["b", "a"]), ((), ("a",), ("b",), ("a", "b")))

    def test_no_name(self):
        self.assertEqual(kinds([]), ((),))
        self.assertEqual(kinds(()), ((),))

    def test_one_name(self):
        self.assertEqual(kinds(["a"]), ((), ("a",)))

    def test_three_names(self):
        told = kinds(("c", "a", "b"))
        self.assertEqual(
            told, ((), ("a",), ("b",), ("a", "b"), ("c",), ("a", "c"), ("b", "c"), ("a", "b", "c"))
        )

    def test_up_to_five_names_in_any_order(self):
        for many in range(6):
            for names in itertools.permutations(NAMES, many):
                self.assertEqual(kinds(list(names)), expected(names))
                self.assertEqual(kinds(names), expected(names))

    def test_repeated_names(self):
        for many in range(1, 5):
            for names in itertools.product(NAMES[:3], repeat=many):
                self.assertEqual(kinds(list(names)), expected(names))
                self.assertEqual(kinds(names), expected(names))

    def test_somewhat_more_names(self):
        names = list("gfedcba")
        self.assertEqual(kinds(names), expected(names))

    def test_all_is_told_as_tuples(self):
        told = kinds(["b", "a"])
        self.assertIs(type(told), tuple)
        for kind in told:
            self.assertIs(type(kind), tuple)

    def test_what_was_passed_is_unchanged(self):
        names = ["b", "a", "b"]
        kinds(names)
        self.assertEqual(names, ["b", "a", "b"])

    def test_what_was_returned_stays(self):
        names = ["a"]
        told = kinds(names)
        names.append("b")
        self.assertEqual(told, ((), ("a",)))
        self.assertEqual(kinds(["a"]), told)

    def test_by_the_name_of_the_parameter(self):
        self.assertEqual(kinds(names=["a"]), ((), ("a",)))


if __name__ == "__main__":
    unittest.main()
