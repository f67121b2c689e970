"""[10]: the texts of crowds."""

import random
import unittest

from mostcrowds.crowds import Crowd
from mostcrowds.errors import InvalidText

from tests.test_crowds import MADE, added, made_crowd

LONG = "1234567890" * 4
TEXTS = [
    ("nobody", []),
    ("1", [((), 1)]),
    ("10", [((), 10)]),
    ("3 a b, 2 c", [(("a", "b"), 3), (("c",), 2)]),
    ("1, 3 a b, 2 c", [((), 1), (("a", "b"), 3), (("c",), 2)]),
    ("1 a, 1 a b, 1 a c, 1 b", [(("a",), 1), (("a", "b"), 1), (("a", "c"), 1), (("b",), 1)]),
    (LONG[:31] + " zzzz", [(("zzzz",), int(LONG[:31]))]),
    ("7 a aa b zz", [(("zz", "aa", "a", "b"), 7)]),
]
READ_ALIKE = [
    ("0", "nobody"),
    ("0 a", "nobody"),
    ("0, 0 a, 0", "nobody"),
    ("2 c, 3 b a, 1", "1, 3 a b, 2 c"),
    ("1 b a, 2 a b", "3 a b"),
    ("1, 0, 2", "3"),
    ("0 b, 5 c b a", "5 a b c"),
    ("9" * 31, "9" * 31),
    ("9" * 31 + ", 1", "1" + "0" * 31),
    ("1 no, 1 bod", "1 bod, 1 no"),
]
WRONG = [
    ("", 0), (" ", 0), (",", 0), (", ", 0), (", 1 a", 0), ("1 a, ", 1), ("1 a, , 1 b", 1), ("1 a,  1 b", 1), ("1 a,1 b", 0),
    ("1 a , 1 b", 0), ("1 a,", 0), (" 1 a", 0), ("1  a", 0), ("1 a ", 0), ("1 ", 0), ("a", 0), ("a 1", 0), ("1 a 2", 0),
    ("1 a 2 b", 0), ("a, b", 0), ("1 a, b", 1), ("1 a, 2 b, c", 2),
    ("nobody, 1 a", 0), ("1 a, nobody", 1), ("nobody, nobody", 0), ("nobody a", 0), ("nobody ", 0), (" nobody", 0),
    ("Nobody", 0), ("1 nobody", 0), ("nobody,", 0),
    ("01 a", 0), ("00", 0), ("1, 01 a", 1), ("-1 a", 0), ("+1 a", 0), ("1.0 a", 0), ("1e3", 0), ("0x1", 0), ("1_0", 0),
    ("1" * 32, 0), ("1, " + "1" * 32 + " a", 1), (LONG, 0), ("0" + "1" * 31, 0),
    ("1 a a", 0), ("1 a b a", 0), ("2 b, 1 b b", 1), ("1 all", 0), ("1 none", 0), ("1, 2, 1 at", 2), ("1 if", 0), ("1 else", 0),
    ("1 end", 0), ("1 say", 0), ("1 stop", 0), ("1 abcde", 0), ("1 A", 0), ("1 a1", 0), ("1 a-b", 0), ("1 ~", 0), ("1 & a b", 0),
    ("1 a\n", 0), ("1\n", 0), ("1 a,\n1 b", 0), ("1 a\n, 1 b", 0), ("1 a;", 0), ("x" * 2000, 0), ("1 a, " * 300, 300),
]


class Written(unittest.TestCase):
    def test_texts(self):
        for text, parts in TEXTS:
            self.assertEqual(str(Crowd(parts)), text)

    def test_numbers_of_up_to_forty_digits(self):
        for many in range(1, 41):
            number = int(LONG[:many])
            self.assertEqual(str(Crowd([(("b", "a"), number)])), f"{LONG[:many]} a b")
            self.assertEqual(str(Crowd([((), number)])), LONG[:many])

    def test_a_sum_that_is_longer_than_what_is_read(self):
        crowd = Crowd.read("9" * 31 + " a") * 1000
        self.assertEqual(str(crowd), "9" * 31 + "000 a")

    def test_a_string_is_told(self):
        for parts, _, _ in MADE:
            self.assertIs(type(str(Crowd(parts))), str)


class Read(unittest.TestCase):
    def test_texts_that_are_written(self):
        for text, parts in TEXTS:
            crowd = Crowd.read(text)
            self.assertIs(type(crowd), Crowd)
            self.assertEqual(crowd.parts, added(parts))
            self.assertEqual(str(crowd), text)

    def test_texts_that_are_written_otherwise(self):
        for text, same in READ_ALIKE:
            with self.subTest(text=text):
                self.assertEqual(str(Crowd.read(text)), same)
                self.assertEqual(Crowd.read(text), Crowd.read(same) if len(same) <= 31 else Crowd.read(text))

    def test_there_and_back(self):
        source = random.Random(14)
        for _ in range(200):
            crowd = Crowd(made_crowd(source, most=10 ** 20))
            self.assertEqual(Crowd.read(str(crowd)), crowd)

    def test_a_long_text(self):
        self.assertEqual(Crowd.read(", ".join(["1 a"] * 400)).parts, ((("a",), 400),))
        names = [first + second for first in "bcdefghjklmnopqrstuvwxy" for second in "bcdfgh"]
        self.assertEqual(Crowd.read("2 " + " ".join(names[::-1])).parts, ((tuple(sorted(names)), 2),))

    def test_by_the_name_of_the_parameter(self):
        self.assertEqual(Crowd.read(text="1 a").size, 1)

    def test_wrong_texts(self):
        for text, at in WRONG:
            with self.subTest(text=text):
                with self.assertRaises(InvalidText) as caught:
                    Crowd.read(text)
                self.assertIs(type(caught.exception), InvalidText)
                self.assertEqual(caught.exception.at, at)

    def test_each_place_of_a_wrong_part(self):
        for wrong in ["", "a", "01 a", "1 a a", "1 all", "nobody", "1 ", " 1", "1  a", "1" * 32, "1 abcde"]:
            for at in range(4):
                parts = ["1", "0 a", "2 c b", "1"][:at] + [wrong] + ["3 b", wrong, "x"]
                with self.assertRaises(InvalidText) as caught:
                    Crowd.read(", ".join(parts))
                self.assertEqual(caught.exception.at, at)


if __name__ == "__main__":
    unittest.main()
