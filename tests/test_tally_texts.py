"""[12] and [14]: the texts of tallies and claims."""

import unittest

from mostcrowds.claims import Claim
from mostcrowds.errors import InvalidText
from mostcrowds.groups import Group
from mostcrowds.tallies import Tally

from tests.values import A, B, C, made_claims

TEXTS = [
    ("0", []),
    ("+ a", [(1, A)]),
    ("- a", [(-1, A)]),
    ("+ 0 a", [(0, A)]),
    ("+ 2 a", [(2, A)]),
    ("- 2 a", [(-2, A)]),
    ("+ 3 & a b - 2 a + c", [(3, A & B), (-2, A), (1, C)]),
    ("- 10 ~ a - 123456789 all", [(-10, ~A), (-123456789, Group.every())]),
    ("+ at 2 3 a b c - 3 at 0 0 + none", [(1, Group.at_least(2, [A, B, C])), (-3, Group.at_least(0, [])), (1, Group.nothing())]),
    ("+ a + a - a", [(1, A), (1, A), (-1, A)]),
    ("+ 0 a + 0 none", [(0, A), (0, Group.nothing())]),
    ("+ 11 a", [(11, A)]),
    ("- - a b - - b a", [(-1, A - B), (-1, B - A)]),
    ("+ - a b - 2 - b a", [(1, A - B), (-2, B - A)]),
]
READ_ALIKE = [("+ 1 a", "+ a"), ("- 1 a", "- a"), ("- 0 a", "+ 0 a"), ("+ 1 at 1 1 a", "+ at 1 1 a")]
WRONG = [
    ("", 0), (" ", 0), ("a", 0), ("3", 0), ("00", 0), ("1", 0), ("& a b", 0), ("least", 0), ("nobody", 0), ("++ a", 0), ("+a", 0),
    ("\n", 0), ("0\n", 0), ("* a", 0), ("~ a", 0),
    ("0 + a", 0), ("0 0", 0), ("0 ", 0), ("0 a", 0), ("- 0", 2), ("+ 0", 2), (" 0", 0), (" + a", 0),
    ("+", 1), ("-", 1), ("+ 3", 2), ("- 12", 2), ("+ a -", 3), ("+ a - 3", 4), ("+ a + b +", 5),
    ("+ &", 2), ("+ & a", 3), ("+ 2 & a", 4), ("+ 2 at", 3), ("+ at 1", 3), ("+ at 1 2 a", 5), ("+ ~", 2), ("+ at 0 0 +", 5),
    ("+ 03 a", 1), ("+ 00 a", 1), ("+ 01 a", 1), ("+ a - 05 b", 3), ("+ 1234567890 a", 1), ("+ -3 a", 1), ("+ +3 a", 1),
    ("+ 3.0 a", 1), ("+ 3a", 1), ("+ a3", 1), ("+ 1_0 a", 1), ("+ 2^ a", 1),
    ("+ 3 3 a", 2), ("+ 3 0", 2), ("+ + a", 1), ("+ 2 + a", 2), ("+ a 0", 2), ("+ a a", 2), ("+ a 2 b", 2), ("+ a b c", 2),
    ("+ & a b c", 4), ("+ a & b c", 2), ("+ a 0 b", 2), ("+ all all", 2), ("+ 2 a 2 a", 3), ("+ at 0 0 a", 4),
    ("+ nobody", 1), ("+ if", 1), ("+ else", 1), ("+ end", 1), ("+ say", 1), ("+ stop", 1), ("+ least", 1), ("+ abcde", 1),
    ("+ A", 1), ("+ a1", 1), ("+ & a if", 3), ("+ & a B - c", 3), ("+ a - ~ else", 4),
    ("+  a", 1), ("+ a ", 2), ("+ a  - b", 2), ("+ a -  b", 3), ("+ 3  a", 2), ("+ a\n", 1), ("+\na", 0), ("+ a\n- b", 1),
    ("+ at 01 1 a", 2), ("+ at 1 01 a", 3), ("+ at a 1 a", 2), ("+ at 1 a", 3), ("+ a " * 200, 400),
]


class Written(unittest.TestCase):
    def test_texts(self):
        for text, terms in TEXTS:
            self.assertEqual(str(Tally(terms)), text)
            for word in ("least", "more", "even"):
                self.assertEqual(str(Claim(word, Tally(terms))), f"{word} {text}")

    def test_as_it_was_made(self):
        for recipes in made_claims(30, 40, "abc", 5):
            for recipe in recipes:
                self.assertEqual(str(recipe.claim()), recipe.text())
                self.assertEqual(f"{recipe.word} {recipe.tally()}", recipe.text())


class Read(unittest.TestCase):
    def test_texts_that_are_written(self):
        for text, terms in TEXTS:
            told = [(number, str(group)) for number, group in terms]
            tally = Tally.read(text)
            self.assertIs(type(tally), Tally)
            self.assertEqual([(number, str(group)) for number, group in tally.terms], told)
            for word in ("least", "more", "even"):
                claim = Claim.read(f"{word} {text}")
                self.assertIs(type(claim), Claim)
                self.assertEqual(claim.word, word)
                self.assertEqual([(number, str(group)) for number, group in claim.tally.terms], told)

    def test_there_and_back(self):
        for recipes in made_claims(31, 40, "abc", 5, 1000):
            for recipe in recipes:
                self.assertEqual(str(Claim.read(recipe.text())), recipe.text())
                tally = Tally.read(recipe.text().split(" ", 1)[1])
                self.assertEqual(tally.names, tuple(sorted(recipe.names())))
                self.assertEqual(tally.weight(("a",)), recipe.weight(("a",)))

    def test_texts_that_are_not_written(self):
        for text, same in READ_ALIKE:
            self.assertEqual(str(Tally.read(text)), same)
            self.assertEqual(str(Claim.read(f"even {text}")), f"even {same}")
        self.assertEqual(str(Tally.read("+ 1 a + 0 b - 0 c - 1 a")), "+ a + 0 b + 0 c - a")

    def test_by_the_name_of_the_parameter(self):
        self.assertEqual(str(Tally.read(text="+ a")), "+ a")
        self.assertEqual(str(Claim.read(text="least + a")), "least + a")

    def assert_wrong(self, read, text, at):
        with self.assertRaises(InvalidText) as caught:
            read(text)
        self.assertIs(type(caught.exception), InvalidText)
        self.assertEqual(caught.exception.at, at)

    def test_wrong_texts_of_tallies(self):
        for text, at in WRONG:
            with self.subTest(text=text):
                self.assert_wrong(Tally.read, text, at)

    def test_wrong_tallies_of_claims(self):
        for text, at in WRONG:
            for word in ("least", "more", "even"):
                with self.subTest(text=text, word=word):
                    self.assert_wrong(Claim.read, f"{word} {text}", at + 1)

    def test_wrong_words_of_claims(self):
        for text, at in [
            ("", 0), (" ", 0), ("a", 0), ("0", 0), ("+ a", 0), ("Least + a", 0), ("leas + a", 0), ("leastt 0", 0), ("most + a", 0),
            ("odd 0", 0), (" least + a", 0), ("least", 1), ("more", 1), ("even", 1), ("least ", 1), ("least  + a", 1),
            ("least least + a", 1), ("least\n+ a", 0), ("none", 0), ("all + a", 0), ("least + a even 0", 3), ("even 0 0", 1),
            ("x" * 2000, 0),
        ]:
            with self.subTest(text=text):
                self.assert_wrong(Claim.read, text, at)

    def test_a_long_text(self):
        text = " ".join(["+ a - 2 & a b"] * 150)
        self.assertEqual((str(Tally.read(text)), len(Tally.read(text).terms)), (text, 300))


if __name__ == "__main__":
    unittest.main()
