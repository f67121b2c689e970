"""[8]: the texts of groups, and reading them."""

import unittest

from mostcrowds.errors import InvalidText
from mostcrowds.groups import Group
from tests.recipes import ONE_LEVEL, TWO_LEVELS, all_kinds, group_of, has, made_recipes, names_of, text_of

A, B, C = [Group.named(name) for name in ("a", "b", "c")]
RECIPES = ONE_LEVEL + TWO_LEVELS + made_recipes(5, 60, 5)

# Texts, and the number that InvalidText has.
WRONG = [
    # an empty text, empty words
    ("", 0), (" ", 0), ("  ", 0), (" a", 0), ("a ", 1), ("a  ", 1), ("& a  b", 2), ("&  a b", 1), ("& a b ", 3), ("~ ", 1),
    ("at  1 a", 1), ("at 1  a", 2), ("at 1 1 ", 3), ("at 1 0 ", 3), (" at 1 0", 0), ("all ", 1),
    # unknown words
    ("abcde", 0), ("A", 0), ("a1", 0), ("3", 0), ("0", 0), ("+ a b", 0), ("* a b", 0), ("at1", 0), ("&a b", 0), ("nobody", 0),
    ("& a B", 2), ("~ 1", 1), ("~ ~ x_", 2), ("| a,", 1), ("a\n", 0), ("a\nb", 0), ("& a\n b", 1), ("\n", 0), ("~~ a", 0),
    ("at 1 2 a &b", 4), ("- a if", 2), ("(a)", 0), ("$", 0),
    # words that are barred as names, but no signs
    ("if", 0), ("else", 0), ("end", 0), ("say", 0), ("stop", 0), ("~ stop", 1), ("& end a", 1), ("at 1 1 say", 3),
    # words too many
    ("a b", 1), ("a a", 1), ("all none", 1), ("none &", 1), ("~ a b", 2), ("& a b c", 3), ("& a b c d", 3), ("at 0 0 a", 3),
    ("at 1 1 a b", 4), ("at 1 2 a b c", 5), ("a B", 1), ("a at", 1), ("& a ~ b if", 4),
    # texts that end too early
    ("~", 1), ("&", 1), ("& a", 2), ("|", 1), ("| | a", 3), ("- ~ a", 3), ("^ a", 2), ("at", 1), ("at 1", 2), ("at 1 1", 3),
    ("at 1 2 a", 4), ("at 3 2 & a b", 6), ("at 0 1", 3), ("~ ~ ~", 3), ("& & a b", 4), ("at 2 2 at 1 1", 6), ("& a at 1", 4),
    ("at 1 999999999 a", 4),
    # numbers
    ("at 01 1 a", 1), ("at 1 01 a", 2), ("at 00 1 a", 1), ("at 1 00", 2), ("at 1000000000 1 a", 1), ("at 1 1000000000 a", 2),
    ("at 0000000001 1 a", 1), ("at 1 0000000001 a", 2), ("at 010 0", 1), ("at 1234567890 0", 1), ("at -1 0", 1), ("at +1 0", 1),
    ("at 1 -1", 2), ("at 1 +1 a", 2), ("at a 1 b", 1), ("at 1 a b", 2), ("at 1. 1 a", 1), ("at 1_0 1 a", 1), ("at 1e1 1 a", 1),
    ("at 0x1 1 a", 1), ("at ~ 1 a", 1), ("at 1 ~ a", 2), ("at at 1 1", 1), ("at 1 at", 2), ("at 1\n 1 a", 1), ("at 1 1\n a", 2),
    ("at \u0661 1 a", 1), ("at 1 \u00b2 a b", 2),
    # the first word that is wrong counts
    ("& A B", 1), ("at x y z", 1), ("A B C", 0), ("a  B", 1), ("at 01 01 A", 1), ("^ a 1 2", 2), ("at 1 2 if", 3),
]


class Texts(unittest.TestCase):
    def test_each_way_to_make_a_group(self):
        for group, text in [
            (A, "a"),
            (Group.named("abcd"), "abcd"),
            (Group.every(), "all"),
            (Group.nothing(), "none"),
            (~A, "~ a"),
            (A & B, "& a b"),
            (A | B, "| a b"),
            (A - B, "- a b"),
            (A ^ B, "^ a b"),
            (Group.at_least(2, [A, B, C]), "at 2 3 a b c"),
            (Group.at_least(0, ()), "at 0 0"),
            (Group.at_least(30, [C]), "at 30 1 c"),
            (Group.at_least(999999999, [C]), "at 999999999 1 c"),
        ]:
            self.assertEqual(str(group), text)

    def test_as_it_was_made(self):
        for recipe in RECIPES:
            self.assertEqual(str(group_of(recipe)), text_of(recipe))

    def test_nothing_is_made_simpler(self):
        self.assertEqual(str(~~A), "~ ~ a")
        self.assertEqual(str((A & A) | (A & A)), "| & a a & a a")
        self.assertEqual(str(B & A), "& b a")
        self.assertEqual(str(A - A), "- a a")
        self.assertEqual(str(Group.at_least(5, [A, A])), "at 5 2 a a")
        self.assertEqual(str((A & B) & C), "& & a b c")
        self.assertEqual(str(A & (B & C)), "& a & b c")

    def test_eight_deep(self):
        group, text = A, "a"
        group, text = ~group, f"~ {text}"
        group, text = group & B, f"& {text} b"
        group, text = B | group, f"| b {text}"
        group, text = group - C, f"- {text} c"
        group, text = C ^ group, f"^ c {text}"
        for number in range(3):
            group = Group.at_least(number, [C, group, group])
            text = f"at {number} 3 c {text} {text}"
        self.assertEqual(str(group), text)
        self.assertEqual(str(Group.read(text)), text)


class Reading(unittest.TestCase):
    def test_each_recipe(self):
        for recipe in RECIPES:
            text = text_of(recipe)
            group = Group.read(text)
            self.assertIs(type(group), Group)
            self.assertEqual(str(group), text)
            self.assertEqual(group, group_of(recipe))
            self.assertEqual(group.names, tuple(sorted(names_of(recipe))))
            for kind in all_kinds("abc"):
                self.assertEqual(group.has(tuple(kind)), has(recipe, kind), text)

    def test_the_order_of_what_is_joined(self):
        self.assertEqual(Group.read("- ~ a b"), ~A - B)
        self.assertEqual(Group.read("- a ~ b"), A - ~B)
        self.assertEqual(Group.read("- - a b c"), (A - B) - C)
        self.assertEqual(Group.read("- a - b c"), A - (B - C))
        self.assertEqual(Group.read("at 1 2 - a b - b c"), (A - B) | (B - C))

    def test_numbers(self):
        self.assertEqual(str(Group.read("at 0 1 a")), "at 0 1 a")
        self.assertEqual(str(Group.read("at 999999999 1 a")), "at 999999999 1 a")
        self.assertEqual(Group.read("at 999999999 1 a"), Group.nothing())
        self.assertEqual(str(Group.read("at 10 0")), "at 10 0")
        eleven = "at 6 11 a b a b a b a b a b a"
        self.assertEqual(str(Group.read(eleven)), eleven)
        self.assertEqual(Group.read(eleven), A)

    def test_wrong_texts(self):
        for text, at in WRONG:
            with self.subTest(text=text):
                with self.assertRaises(InvalidText) as caught:
                    Group.read(text)
                self.assertIs(type(caught.exception), InvalidText)
                self.assertIs(type(caught.exception.at), int)
                self.assertEqual(caught.exception.at, at)

    def test_each_text_cut_off(self):
        for recipe in TWO_LEVELS:
            words = text_of(recipe).split(" ")
            for many in range(1, len(words)):
                with self.assertRaises(InvalidText) as caught:
                    Group.read(" ".join(words[:many]))
                self.assertEqual(caught.exception.at, many, words[:many])

    def test_each_text_with_a_wrong_word(self):
        for recipe in TWO_LEVELS:
            words = text_of(recipe).split(" ")
            for at in range(len(words)):
                for wrong in ["", "else", "A", "-1", "01", "abcde", "\n"]:
                    with self.assertRaises(InvalidText) as caught:
                        Group.read(" ".join(words[:at] + [wrong] + words[at + 1:]))
                    self.assertEqual(caught.exception.at, at, words)

    def test_each_text_with_a_word_too_many(self):
        for recipe in TWO_LEVELS:
            text = text_of(recipe)
            for word in ["", "a", "all", "&", "3", "at"]:
                with self.assertRaises(InvalidText) as caught:
                    Group.read(f"{text} {word}")
                self.assertEqual(caught.exception.at, len(text.split(" ")), text)

    def test_a_long_text(self):
        text = "~ " * 999 + "ab"
        self.assertEqual(str(Group.read(text)), text)
        self.assertEqual(Group.read(text), ~Group.named("ab"))
        with self.assertRaises(InvalidText) as caught:
            Group.read("& " * 999 + "&")
        self.assertEqual(caught.exception.at, 1000)

    def test_by_the_name_of_the_parameter(self):
        self.assertEqual(str(Group.read(text="& a b")), "& a b")


if __name__ == "__main__":
    unittest.main()
