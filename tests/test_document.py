"""The examples of the document that have landed."""

import unittest

from mostcrowds.groups import Group
from mostcrowds.kinds import kinds


class SectionFour(unittest.TestCase):
    def test_kinds(self):
        self.assertEqual(kinds(["b", "a"]), ((), ("a",), ("b",), ("a", "b")))

    def test_groups(self):
        a, b, c = [Group.named(name) for name in ("a", "b", "c")]
        two = Group.at_least(2, [a, b, c])
        self.assertEqual(
            (str(two), two == (a & b) | (a & c) | (b & c), two.has(["c", "a"]), a & b < two),
            ("at 2 3 a b c", True, True, True),
        )
        self.assertEqual(
            (str(~a - b), Group.read("- ~ a b") == ~(a | b), str(two.put({"b": a, "c": Group.nothing()}))),
            ("- ~ a b", True, "at 2 3 a a none"),
        )


if __name__ == "__main__":
    unittest.main()
