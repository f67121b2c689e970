"""Systems: claims that are told by their weights alone."""

import itertools
import random
import unittest

from mostcrowds.systems import fewest_kept, kept

from tests.values import can_be_kept, is_so


def made_systems(seed, many, kinds, claims, numbers):
    source = random.Random(seed)
    return [
        [
            (source.choice(["least", "more", "more", "even"]), [source.randint(-numbers, numbers) for _ in range(kinds)])
            for _ in range(source.randint(1, claims))
        ]
        for _ in range(many)
    ]


def least_size(system, kinds):
    """How many kinds it takes, at least, found by trying all choices of kinds; `None` if no choice will do."""
    words = [word for word, _ in system]
    for many in range(kinds + 1):
        for chosen in itertools.combinations(range(kinds), many):
            if can_be_kept(words, [[row[kind] for kind in chosen] for _, row in system]):
                return many
    return None


class Fewest(unittest.TestCase):
    def assert_keeps(self, numbers, system):
        self.assertTrue(all(number >= 0 for number in numbers))
        self.assertTrue(all(is_so(word, sum(x * y for x, y in zip(numbers, row))) for word, row in system))

    def test_as_few_kinds_as_any_choice(self):
        sizes, spared = {}, 0
        for kinds, claims, numbers in [(4, 3, 2), (4, 5, 3), (5, 4, 2), (6, 4, 9)]:
            for system in made_systems(530 + kinds + claims, 150, kinds, claims, numbers):
                found = fewest_kept([system], kinds)
                size = least_size(system, kinds)
                sizes[size] = sizes.get(size, 0) + 1
                if size is None:
                    self.assertIsNone(found)
                    continue
                self.assert_keeps(found, system)
                self.assertEqual(len([number for number in found if number > 0]), size, system)
                spared += size < len([number for number in kept(system, kinds) if number > 0])
        self.assertLessEqual({0, 1, 2, 3, None}, set(sizes))
        self.assertGreater(spared, 15)

    def test_several_systems(self):
        for at, systems in enumerate(zip(*[iter(made_systems(540, 240, 5, 4, 3))] * 4)):
            systems = list(systems)[:at % 5]
            found = fewest_kept(systems, 5)
            sizes = [size for size in [least_size(system, 5) for system in systems] if size is not None]
            self.assertEqual(found is None, not sizes)
            if sizes:
                self.assertEqual(len([number for number in found if number > 0]), min(sizes))
                self.assertTrue(any(self.keeps(found, system) for system in systems))

    def keeps(self, numbers, system):
        return all(is_so(word, sum(x * y for x, y in zip(numbers, row))) for word, row in system)

    def test_none_at_all(self):
        self.assertIsNone(fewest_kept([], 4))
        self.assertEqual(fewest_kept([[]], 4), [0, 0, 0, 0])


if __name__ == "__main__":
    unittest.main()
