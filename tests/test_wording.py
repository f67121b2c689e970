"""Groups and tallies that are made out of their kinds and weights alone."""

import random
import unittest

from mostcrowds.kinds import kinds
from mostcrowds.wording import group_of, tally_of


class Groups(unittest.TestCase):
    def test_all_groups_of_few_names(self):
        for names in ([], ["a"], ["a", "b"], ["a", "b", "c"]):
            every = kinds(names)
            for table in range(1 << len(every)):
                group = group_of(table, names)
                self.assertEqual([group.has(kind) for kind in every], [(table >> at) & 1 == 1 for at in range(len(every))])
                self.assertLessEqual(set(group.names), set(names))

    def test_some_groups_of_more_names(self):
        source = random.Random(520)
        for names in ("abcd", "abcde", ("a", "bb", "c", "d", "e", "zz")):
            every = kinds(names)
            for _ in range(20):
                table = source.getrandbits(len(every))
                group = group_of(table, tuple(names))
                self.assertEqual([group.has(kind) for kind in every], [(table >> at) & 1 == 1 for at in range(len(every))])

    def test_they_are_written_as_plainly_as_they_can_be(self):
        for table, text in [(0, "none"), (15, "all"), (10, "a"), (12, "b"), (5, "~ a"), (3, "~ b"), (8, "& a b"), (2, "- a b"), (14, "| a b")]:
            self.assertEqual(str(group_of(table, ["a", "b"])), text)


class Tallies(unittest.TestCase):
    def test_made_ones(self):
        source = random.Random(521)
        for names in ([], ["a"], ["a", "b"], ["a", "b", "c"], list("abcde")):
            every = kinds(names)
            for numbers in (1, 3, 10 ** 6, 10 ** 40):
                for _ in range(20):
                    row = [source.choice([0, source.randint(-numbers, numbers)]) for _ in every]
                    tally = tally_of(row, names)
                    self.assertEqual([tally.weight(kind) for kind in every], row)
                    self.assertLessEqual(set(tally.names), set(names))

    def test_they_are_written_as_plainly_as_they_can_be(self):
        for row, text in [([0, 0, 0, 0], "0"), ([0, 1, -1, 0], "+ a - b"), ([1, 1, 1, 1], "+ all"), ([0, 0, 0, 3], "+ 3 & a b"), ([0, 1, 0, 0], "+ a - & a b"), ([2, 0, 2, 0], "+ 2 all - 2 a")]:
            self.assertEqual(str(tally_of(row, ["a", "b"])), text)


if __name__ == "__main__":
    unittest.main()
