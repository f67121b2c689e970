"""[25]: the texts of programs, and reading them."""

import random
import unittest

from mostcrowds.errors import CrowdError, InvalidText
from mostcrowds.programs import Program
from mostcrowds.rows import If, Say, While

from tests.programs import made_programs, program_of, program_text

MADE = [[]] + made_programs(420, 200, rows=12, nest=4) + made_programs(421, 60, "ab", 5, 5)


class Told(unittest.TestCase):
    def test_text_and_reading(self):
        for rows in MADE:
            program, text = program_of(rows), program_text(rows)
            self.assertEqual(str(program), text)
            read = Program.read(text)
            self.assertIs(type(read), Program)
            self.assertEqual(str(read), text)
            self.assertEqual(read, program)
            self.assertEqual(read.names, program.names)
        self.assertEqual((Program.read(""), str(Program()), Program.read("").rows), (Program(), "", ()))

    def test_the_rows_that_are_read(self):
        program = Program.read("if more + a\nelse\nsay u\nend\nwhile even 0\nsay v\nend")
        self.assertEqual((type(program.rows[0]), type(program.rows[1])), (If, While))
        self.assertEqual((program.rows[0].rows, program.rows[0].others, program.rows[1].rows), ((), (Say("u"),), (Say("v"),)))

    def test_an_else_without_rows_behind_it(self):
        for text, written in [
            ("if more + a\nelse\nend", "if more + a\nend"), ("if more + a\nsay u\nelse\nend", "if more + a\nsay u\nend"),
            ("if more + a\nif more + b\nelse\nend\nelse\nsay v\nend", "if more + a\nif more + b\nend\nelse\nsay v\nend"),
        ]:
            self.assertEqual(str(Program.read(text)), written)
            self.assertEqual(Program.read(text), Program.read(written))

    def test_the_forms_of_lines(self):
        for line in [
            "a = b", "abcd = & a ~ b", "a = at 2 3 a b c", "a = at 0 0", "a = all", "a = a", "say w", "say zzzz", "stop", "els = a",
        ]:
            self.assertEqual(str(Program.read(line)), line)
        for line in ["if least 0", "if more + 0 a - 3 & a b", "while even + at 1 1 a", "while more + 2 a"]:
            self.assertEqual(str(Program.read(f"{line}\nend")), f"{line}\nend")


WRONG_LINES = [
    "", " ", "a", "a =", "a = ", "a  = b", "a = b ", " a = b", "a = b c", "a = & b", "a = A", "a == b", "a = = b", "a = all all", "a = at 1", "a = at 01 1 a",
    "all = a", "none = a", "at = a", "if = a", "else = a", "end = a", "say = a", "stop = a", "while = a", "abcde = a", "A = a", "a1 = b", " = b", "= b", "=", "= =",
    "say", "say ", "say  w", "say w w", "say abcde", "say W", "say all", "say end", "say stop", "say =", "say w =", "sayw", "Say w", " say w", "say w ",
    "stop ", " stop", "stop w", "Stop", "stops", "if", "if ", "if more", "if more +", "if more + a b", "if more a", "if  more + a", "if More + a", "if a", "if most + a",
    "if more + a ", "if more 0 0", "while", "while ", "while more", "while a", "while more + A", "While more + a", "whilemore + a", "while more + a =", "fi", "endif",
    "else if more + a", "else ", " else", "end ", " end", "end end", "elif more + a", "a = b; say w", "a = b\tc", "a=b", "a =b", "a= b", "a := b", ";", "#", "say w;",
]


class Wrong(unittest.TestCase):
    def at(self, text):
        with self.assertRaises(InvalidText) as caught:
            Program.read(text)
        self.assertIs(type(caught.exception), InvalidText)
        self.assertIsInstance(caught.exception, CrowdError)
        return caught.exception.at

    def test_lines_that_are_none(self):
        # An empty text is a program without rows; so an empty line stands with others.
        for line in WRONG_LINES:
            for ahead in ([], ["say w"], ["if more + a", "stop"], ["a = b", "while least 0", "if even 0", "else", "stop"]):
                for behind in ([], ["stop"], ["end", "end"], [""], ["what"]):
                    if line or ahead or behind:
                        self.assertEqual(self.at("\n".join([*ahead, line, *behind])), len(ahead), (ahead, line, behind))

    def test_empty_lines(self):
        for text, at in [("\n", 0), ("stop\n", 1), ("\nstop", 0), ("stop\n\nstop", 1), ("if more + a\n\nend", 1), ("if more + a\nend\n", 2), (" ", 0)]:
            self.assertEqual(self.at(text), at)

    def test_else_and_end(self):
        for text, at in [
            ("else", 0), ("end", 0), ("say w\nelse", 1), ("say w\nend", 1), ("if more + a\nend\nend", 2), ("if more + a\nend\nelse", 2), ("while more + a\nelse\nend", 1),
            ("while more + a\nsay w\nelse", 2), ("if more + a\nelse\nelse\nend", 2), ("if more + a\nelse\nsay w\nelse", 3), ("if more + a\nwhile more + b\nelse\nend\nend", 2),
            ("while more + a\nif more + b\nelse\nend\nelse\nend", 4), ("while more + a\nend\nend", 2), ("if more + a\nelse\nend\nelse", 3),
            ("if more + a\nelse\nif more + a\nelse\nelse", 4), ("if more + a\nif more + a\nelse\nend\nelse\nend\nend", 6),
        ]:
            self.assertEqual(self.at(text), at, text)

    def test_an_end_that_is_missing(self):
        for text in [
            "if more + a", "while more + a", "if more + a\nsay w", "if more + a\nelse", "if more + a\nelse\nsay w", "while more + a\nif more + b\nend", "if even 0\nif even 0\nend",
            "a = b\nif even 0\nwhile even 0\nend\nelse\nstop", "if even 0\nwhile even 0\nif even 0",
        ]:
            self.assertEqual(self.at(text), len(text.split("\n")), text)

    def test_made_texts_that_are_cut_and_changed(self):
        source = random.Random(422)
        checked = 0
        for rows in MADE:
            lines = program_text(rows).split("\n")
            for at, line in enumerate(lines):
                # A block whose end is left out is ended by the next end, or by none.
                opened = len([one for one in lines[:at] if one.split()[:1] in (["if"], ["while"])]) - lines[:at].count("end")
                if opened > 0:
                    self.assertEqual(self.at("\n".join(lines[:at])), at)
                    checked += 1
                if rows:
                    spoilt = [*lines[:at], source.choice(WRONG_LINES) or "?", *lines[at + 1:]]
                    self.assertEqual(self.at("\n".join(spoilt)), at, spoilt)
        self.assertGreater(checked, 300)

    def test_the_first_wrong_line(self):
        self.assertEqual(self.at("say w\nwhat\nelse\nif"), 1)
        self.assertEqual(self.at("if more + a\nwhat"), 1)


if __name__ == "__main__":
    unittest.main()
