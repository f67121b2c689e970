"""[25], [26]: programs, their names and their rows."""

import operator
import unittest

from mostcrowds.claims import Claim
from mostcrowds.crowds import Crowd
from mostcrowds.errors import CrowdError, InvalidRow, NoRow
from mostcrowds.programs import Program
from mostcrowds.rows import If, Let, Row, Say, Stop, While

from tests.programs import each_row, made_programs, names_in, program_of, program_text, row_of
from tests.values import A, B, C, ClaimText, any_values

MADE = [[]] + made_programs(410, 120, rows=10, nest=3) + made_programs(411, 40, "ab", 6, 4)
OTHER = ("say", "new")
OTHERS = ("if", ClaimText("more + a - b"), [OTHER], [("while", ClaimText("even + c"), [("stop",)])])
NESTED = Program.read("a = b\nif more + a\nsay u\nwhile least + b\nstop\nend\nelse\nsay v\nb = a\nend\nsay w")


def is_rows(value):
    return isinstance(value, (list, tuple)) and all(isinstance(row, Row) for row in value)


def without(rows, at, fresh=()):
    """The rows in which the row with a number, in the order of their lines, has given way to others."""
    made = []
    for row in rows:
        many = len(list(each_row([row])))
        if at == 0:
            made.extend(fresh)
        elif 0 < at < many:
            first = len(list(each_row(row[2])))
            others = [without(row[3], at - 1 - first, fresh)] if row[0] == "if" else []
            made.append((row[0], row[1], without(row[2], at - 1, fresh), *others))
        else:
            made.append(row)
        at -= many
    return made


class Made(unittest.TestCase):
    def test_rows(self):
        self.assertEqual(Program().rows, ())
        for rows in MADE:
            told = [row_of(row) for row in rows]
            for make in (list, tuple):
                program = Program(make(told))
                self.assertIs(type(program.rows), tuple)
                self.assertEqual(program.rows, tuple(told))
        rows = [Stop()]
        program = Program(rows)
        rows.append(Stop())
        self.assertEqual((program.rows, str(program)), ((Stop(),), "stop"))

    def test_values_of_all_sorts(self):
        for value in any_values():
            for told in (value, [value], (Stop(), value)):
                if is_rows(told):
                    self.assertEqual(Program(told).rows, tuple(told))
                    continue
                with self.assertRaises(InvalidRow) as caught:
                    Program(told)
                self.assertEqual(caught.exception.word, "rows")

    def test_names(self):
        for rows in MADE:
            self.assertEqual(program_of(rows).names, tuple(sorted(names_in(rows))))
        for text, names in [
            ("", ()), ("say w", ()), ("stop", ()), ("a = none", ("a",)), ("b = & d a", ("a", "b", "d")), ("if even 0\nend", ()), ("while more + b - a\nsay c\nend", ("a", "b")),
            ("if more + b\nif least + 0 c\na = all\nelse\nz = zz\nend\nend", ("a", "b", "c", "z", "zz")), ("zz = ab\nsay w", ("ab", "zz")),
        ]:
            names_told = Program.read(text).names
            self.assertEqual((names_told, type(names_told)), (names, tuple))

    def test_by_the_names_of_the_parameters(self):
        program = Program(rows=[Stop()])
        self.assertEqual(program, Program.read(text="stop"))
        self.assertEqual(program.replaced(row=Say("w"), at=0), Program([Say("w")]))
        self.assertEqual(program.without(at=0), Program())
        self.assertEqual(program(crowd=Crowd()).end, "stops")

    def test_equal(self):
        made = [Program(), Program([Stop()]), Program([Stop(), Stop()]), Program([Let("a", A & B)]), Program([Let("a", B & A)]), Program([If(Claim.some(A), [])])]
        for at, program in enumerate(made):
            for other_at, other in enumerate(made):
                self.assertIs(program == other, at == other_at)
                self.assertIs(program != other, at != other_at)
            self.assertIs(program == Program(list(program.rows)), True)
            for value in any_values() + [str(program), program.rows, list(program.rows)]:
                self.assertIs(program == value, isinstance(value, Program) and str(value) == str(program))
        self.assertIs(Program([Stop()]) == Stop(), False)
        self.assertIs(Stop() == Program([Stop()]), False)

    def test_programs_are_not_iterable(self):
        for program in (Program(), NESTED):
            for use in (iter, list, tuple, lambda value: Stop() in value):
                with self.assertRaises(TypeError):
                    use(program)


class Numbers(unittest.TestCase):
    def test_told_ones(self):
        lines = ["a = b", "if more + a", "say u", "while least + b", "stop", "say v", "b = a", "say w"]
        self.assertEqual(len(NESTED), 8)
        self.assertEqual([str(NESTED[at]).split("\n")[0] for at in range(8)], lines)
        self.assertEqual(str(NESTED[3]), "while least + b\nstop\nend")
        for at, text in [
            (0, "if more + a\nsay u\nwhile least + b\nstop\nend\nelse\nsay v\nb = a\nend\nsay w"), (1, "a = b\nsay w"),
            (2, "a = b\nif more + a\nwhile least + b\nstop\nend\nelse\nsay v\nb = a\nend\nsay w"), (3, "a = b\nif more + a\nsay u\nelse\nsay v\nb = a\nend\nsay w"),
            (4, "a = b\nif more + a\nsay u\nwhile least + b\nend\nelse\nsay v\nb = a\nend\nsay w"), (7, "a = b\nif more + a\nsay u\nwhile least + b\nstop\nend\nelse\nsay v\nb = a\nend"),
        ]:
            self.assertEqual(str(NESTED.without(at)), text)
        self.assertEqual(str(NESTED.replaced(3, Stop())), "a = b\nif more + a\nsay u\nstop\nelse\nsay v\nb = a\nend\nsay w")
        self.assertEqual(str(NESTED.replaced(6, While(Claim.some(C), [Stop()]))).count("while more + c\nstop\nend\nend\nsay w"), 1)

    def test_the_only_row_in_a_block(self):
        program = Program.read("if more + a\nsay u\nelse\nsay v\nend\nwhile more + a\nsay w\nend")
        self.assertEqual(str(program.without(1)), "if more + a\nelse\nsay v\nend\nwhile more + a\nsay w\nend")
        self.assertEqual(str(program.without(2)), "if more + a\nsay u\nend\nwhile more + a\nsay w\nend")
        self.assertEqual(str(program.without(1).without(1)), "if more + a\nend\nwhile more + a\nsay w\nend")
        self.assertEqual(str(program.without(4)), "if more + a\nsay u\nelse\nsay v\nend\nwhile more + a\nend")
        self.assertEqual(str(Program([Stop()]).without(0)), "")

    def test_at_each_number(self):
        for rows in MADE:
            program = program_of(rows)
            text = str(program)
            listed = list(each_row(rows))
            self.assertEqual(len(program), len(listed))
            for at, row in enumerate(listed):
                self.assertEqual(program[at], row_of(row))
                self.assertEqual(type(program[at]), type(row_of(row)))
                self.assertEqual(str(program.without(at)), program_text(without(rows, at)), (text, at))
                for fresh in (OTHER, rows[0], OTHERS):
                    made = program.replaced(at, row_of(fresh))
                    self.assertIs(type(made), Program)
                    self.assertEqual(str(made), program_text(without(rows, at, [fresh])), (text, at))
                self.assertEqual(program.replaced(at, program[at]), program)
            self.assertEqual(str(program), text)

    def test_no_such_row(self):
        for program in (Program(), Program([Stop()]), NESTED):
            for at in (-1, -2, len(program), len(program) + 1, 10 ** 30, -10 ** 30, -len(program) - 1):
                calls = [lambda: program[at], lambda: program.without(at), lambda: program.replaced(at, Stop())]
                calls += [lambda value=value: program.replaced(at, value) for value in (None, "stop", Program(), [Stop()])]
                for call in calls:
                    with self.assertRaises(NoRow) as caught:
                        call()
                    self.assertEqual(caught.exception.at, at)
                    self.assertIsInstance(caught.exception, IndexError)
                    self.assertNotIsInstance(caught.exception, CrowdError)

    def test_no_row_to_put_in(self):
        text = str(NESTED)
        for value in any_values():
            if isinstance(value, Row):
                self.assertEqual(NESTED.replaced(0, value)[0], value)
                continue
            for at in (0, 4, 7):
                with self.assertRaises(InvalidRow) as caught:
                    NESTED.replaced(at, value)
                self.assertEqual(caught.exception.word, "rows")
        self.assertEqual(str(NESTED), text)


class Joined(unittest.TestCase):
    def test_sums(self):
        for rows, others in zip(MADE, MADE[7:]):
            program, other = program_of(rows), program_of(others)
            self.assertEqual(str(program + other), program_text(rows + others))
            self.assertEqual((program + other).rows, program.rows + other.rows)
            self.assertEqual((str(program), str(other)), (program_text(rows), program_text(others)))
        self.assertEqual(Program() + Program(), Program())

    def test_multiples(self):
        for rows in MADE[:40]:
            program = program_of(rows)
            for number in range(7):
                for made in (program * number, number * program):
                    self.assertIs(type(made), Program)
                    self.assertEqual(str(made), program_text(rows * number))
            self.assertEqual(str(program), program_text(rows))
        # Somewhat beyond the limit nothing is raised.
        self.assertEqual(len(Program([Stop()]) * 8), 8)

    def test_in_place(self):
        first = program = Program([Say("u")])
        program += Program([Stop()])
        self.assertEqual((str(program), str(first)), ("say u\nstop", "say u"))
        second = program
        program *= 2
        self.assertEqual((str(program), str(second)), ("say u\nstop\nsay u\nstop", "say u\nstop"))
        program *= 0
        self.assertEqual(program, Program())
        program = second
        program *= 6
        self.assertEqual(len(program), 12)

    def test_other_operands(self):
        program = Program([Stop()])
        for value in any_values() + [1.5, {}]:
            for use in (operator.add, operator.iadd, lambda one, other: other + one):
                if not isinstance(value, Program):
                    with self.assertRaises(TypeError):
                        use(program, value)
            if not (type(value) is int and value >= 0):
                for use in (operator.mul, operator.imul, lambda one, other: other * one):
                    with self.assertRaises(TypeError):
                        use(program, value)
        for use in (operator.sub, operator.and_, operator.or_, operator.lt):
            with self.assertRaises(TypeError):
                use(program, program)


if __name__ == "__main__":
    unittest.main()
