"""[23], [24]: the rows of programs."""

import itertools
import unittest

from mostcrowds.claims import Claim
from mostcrowds.errors import CrowdError, InvalidRow
from mostcrowds.groups import Group
from mostcrowds.rows import If, Let, Row, Say, Stop, While
from mostcrowds.tallies import Tally

from tests.programs import lines_of, made_programs, row_of
from tests.values import A, B, C, any_values, is_a_name

SOME = Claim.some(A)
LET = Let("a", B)


def is_rows(value):
    return isinstance(value, (list, tuple)) and all(isinstance(row, Row) for row in value)


class Wrong(unittest.TestCase):
    def word_of(self, make, *values):
        """The word of the error; `None` if a row is made."""
        try:
            self.assertIsInstance(make(*values), Row)
        except InvalidRow as error:
            self.assertIs(type(error), InvalidRow)
            self.assertIsInstance(error, CrowdError)
            return error.word
        return None

    def test_values_of_all_sorts_in_each_place(self):
        for value in any_values():
            self.assertEqual(self.word_of(Let, value, A), None if is_a_name(value) else "name", value)
            self.assertEqual(self.word_of(Let, "a", value), None if isinstance(value, Group) else "group", value)
            self.assertEqual(self.word_of(If, value, [LET]), None if isinstance(value, Claim) else "claim", value)
            self.assertEqual(self.word_of(If, SOME, value), None if is_rows(value) else "rows", value)
            self.assertEqual(self.word_of(If, SOME, [], value), None if is_rows(value) else "rows", value)
            self.assertEqual(self.word_of(While, value, [LET]), None if isinstance(value, Claim) else "claim", value)
            self.assertEqual(self.word_of(While, SOME, value), None if is_rows(value) else "rows", value)
            self.assertEqual(self.word_of(Say, value), None if is_a_name(value) else "word", value)

    def test_rows_among_other_values(self):
        for value in any_values():
            is_row = isinstance(value, Row)
            for rows in ([value], (LET, value), [value, LET], [[LET], value]):
                word = None if is_row and not isinstance(rows[0], list) else "rows"
                self.assertEqual(self.word_of(If, SOME, rows), word, value)
                self.assertEqual(self.word_of(If, SOME, [LET], rows), word, value)
                self.assertEqual(self.word_of(While, SOME, rows), word, value)

    def test_the_right_word_first_where_several_are_wrong(self):
        self.assertEqual(self.word_of(Let, "A", "b"), "name")
        self.assertEqual(self.word_of(Let, None, SOME), "name")
        self.assertEqual(self.word_of(If, A, None, None), "claim")
        self.assertEqual(self.word_of(If, A, [], 1), "claim")
        self.assertEqual(self.word_of(If, A, 1, []), "claim")
        self.assertEqual(self.word_of(If, SOME, 1, 1), "rows")
        self.assertEqual(self.word_of(While, "more + a", LET), "claim")

    def test_names_that_are_barred(self):
        for name in "all none at if else end say stop".split():
            self.assertEqual(self.word_of(Let, name, A), "name")
            self.assertEqual(self.word_of(Say, name), "word")
        for name in ("", "A", "abcde", "a1", "a b", " a", "while"):
            self.assertEqual(self.word_of(Let, name, A), "name")
            self.assertEqual(self.word_of(Say, name), "word")
        for name in ("a", "zzzz", "els", "stoq"):
            self.assertIsNone(self.word_of(Let, name, A))
            self.assertIsNone(self.word_of(Say, name))


class Attributes(unittest.TestCase):
    def test_what_was_passed(self):
        group, claim, rows = A - B, Claim.read("least + a"), (LET, Stop())
        self.assertEqual((Let("abcd", group).name, str(Let("abcd", group).group)), ("abcd", "- a b"))
        for make in (list, tuple):
            one = If(claim, make(rows), make([Say("w")]))
            self.assertEqual((one.claim, one.rows, one.others), (claim, rows, (Say("w"),)))
            self.assertEqual((type(one.rows), type(one.others)), (tuple, tuple))
            one = While(claim, make(rows))
            self.assertEqual((one.claim, one.rows, type(one.rows)), (claim, rows, tuple))
            one = While(claim, make([]))
            self.assertEqual(one.rows, ())
        self.assertEqual(If(claim, rows).others, ())
        self.assertEqual((If(claim, []).rows, If(claim, [], []).others), ((), ()))
        self.assertEqual(Say("w").word, "w")

    def test_lists_that_are_changed_after_the_call(self):
        rows, others = [LET], [Say("w")]
        one, loop = If(SOME, rows, others), While(SOME, rows)
        texts = str(one), str(loop)
        rows.append(Stop())
        others.clear()
        self.assertEqual((str(one), str(loop)), texts)
        self.assertEqual((one.rows, one.others, loop.rows), ((LET,), (Say("w"),), (LET,)))

    def test_row_is_the_base_of_all(self):
        for row in (LET, If(SOME, []), While(SOME, []), Say("w"), Stop()):
            self.assertIsInstance(row, Row)
            self.assertIsNot(type(row), Row)

    def test_by_the_names_of_the_parameters(self):
        self.assertEqual(Let(group=B, name="a"), LET)
        self.assertEqual(If(others=[LET], rows=[Stop()], claim=SOME), If(SOME, [Stop()], [LET]))
        self.assertEqual(While(rows=[LET], claim=SOME), While(SOME, [LET]))
        self.assertEqual(Say(word="w"), Say("w"))

    def test_rows_are_not_iterable(self):
        for row in (LET, If(SOME, [LET]), While(SOME, [LET]), Say("w"), Stop()):
            with self.assertRaises(TypeError):
                iter(row)


class Texts(unittest.TestCase):
    def test_told_ones(self):
        deep = If(SOME, [While(Claim.read("least + b"), [If(Claim.inside(A, B), [LET, Stop()], [Say("w")]), Say("v")])], [Stop()])
        for row, lines in [
            (LET, ["a = b"]), (Let("c", (A & B) - C), ["c = - & a b c"]), (Let("c", Group.nothing()), ["c = none"]), (Say("abcd"), ["say abcd"]), (Stop(), ["stop"]),
            (If(SOME, []), ["if more + a", "end"]), (If(SOME, [], [Stop()]), ["if more + a", "else", "stop", "end"]), (If(SOME, [Stop()], []), ["if more + a", "stop", "end"]),
            (If(Claim("even", Tally()), [LET, LET], [LET]), ["if even 0", "a = b", "a = b", "else", "a = b", "end"]), (While(SOME, []), ["while more + a", "end"]),
            (While(SOME, [LET, Say("w")]), ["while more + a", "a = b", "say w", "end"]),
            (deep, ["if more + a", "while least + b", "if even + - a b", "a = b", "stop", "else", "say w", "end", "say v", "end", "else", "stop", "end"]),
        ]:
            self.assertEqual(str(row), "\n".join(lines))

    def test_made_ones(self):
        for rows in made_programs(400, 150, rows=10, nest=4):
            for row in rows:
                self.assertEqual(str(row_of(row)), "\n".join(lines_of([row])))


class Equal(unittest.TestCase):
    def test_by_their_texts(self):
        made = [
            [Let("a", B & C), Let("a", Group.read("& b c"))], [Let("a", C & B)], [Let("b", B & C)], [Let("a", B)], [Say("a"), Say("a")], [Say("b")], [Stop(), Stop()],
            [If(SOME, []), If(Claim.read("more + a"), (), [])], [While(SOME, [])], [If(SOME, [Stop()]), If(SOME, (Stop(),))], [If(SOME, [], [Stop()])],
            [If(Claim.read("more + 2 a"), [])], [If(Claim("least", SOME.tally), [])], [While(SOME, [Stop()]), While(SOME, (Stop(),))], [If(SOME, [Let("a", C & B)])],
        ]
        told = [(at, row) for at, rows in enumerate(made) for row in rows]
        for (at, row), (other_at, other) in itertools.product(told, told):
            self.assertIs(row == other, at == other_at, (str(row), str(other)))
            self.assertIs(row != other, at != other_at)

    def test_other_values(self):
        for row in (LET, If(SOME, [Stop()]), While(SOME, []), Say("a"), Stop()):
            for value in [*any_values(), str(row), [row], (row,)]:
                if isinstance(value, Row):
                    self.assertIs(row == value, str(row) == str(value))
                else:
                    self.assertIs(row == value, False)
                    self.assertIs(value == row, False)


if __name__ == "__main__":
    unittest.main()
