"""[27], [28]: runs on a crowd, and what comes of them."""

import random
import unittest

from mostcrowds.crowds import Crowd
from mostcrowds.groups import Group
from mostcrowds.programs import Program
from mostcrowds.runs import Outcome, run

from tests.programs import held_after, made_parts, made_programs, names_in, program_of, ran
from tests.values import any_values

MADE = [[]] + made_programs(430, 500) + made_programs(431, 150, "ab", 6, 4) + made_programs(432, 100, "abc", 12, 3)
TELLS_ALL = ("ends", "stops", "never")


def after(machine, parts, names):
    """All members, in the groups of the program's names that hold them, and in the other groups as before."""
    if machine.end == "never":
        return Crowd(parts)
    kinds = [tuple(member & set(names)) + tuple(set(kind) - set(names)) for (kind, _), member in zip(parts, machine.members)]
    return Crowd([(kind, many) for kind, (_, many) in zip(kinds, parts)])


class Runs(unittest.TestCase):
    def test_made_ones(self):
        source = random.Random(433)
        ends = {end: 0 for end in TELLS_ALL}
        for rows in MADE:
            program = program_of(rows)
            for _ in range(4):
                parts = made_parts(source, "abcd")
                crowd = Crowd(parts)
                machine = ran(rows, parts)
                outcome = run(program, crowd)
                ends[machine.end] += 1
                self.assertIs(type(outcome), Outcome)
                self.assertEqual((outcome.end, outcome.words, outcome.names), (machine.end, tuple(machine.words), program.names))
                for name in ["a", "b", "c", "d", "e", "z"]:
                    self.assertEqual(outcome[name], held_after(machine, parts, name, names_in(rows)), (str(program), parts, name))
                self.assertEqual(outcome.after, after(machine, parts, names_in(rows)), (str(program), parts))
                self.assertEqual(program(crowd), outcome)
        self.assertGreater(min(ends.values()), 100)

    def told(self, text, crowd):
        return run(Program.read(text), Crowd.read(crowd))

    def test_told_ends_and_words(self):
        for text, crowd, end, words in [
            ("", "3 a", "ends", ()), ("", "nobody", "ends", ()), ("say u\nsay v\nsay u", "nobody", "ends", ("u", "v", "u")), ("say u\nstop\nsay v", "1", "stops", ("u",)), ("stop", "nobody", "stops", ()),
            ("if more + a\nsay u\nelse\nsay v\nend", "1 a", "ends", ("u",)), ("if more + a\nsay u\nelse\nsay v\nend", "1 b", "ends", ("v",)), ("if more + a\nelse\nend\nsay w", "1 a", "ends", ("w",)),
            ("if even 0\nstop\nend\nsay w", "nobody", "stops", ()), ("if more 0\nstop\nelse\nsay v\nend\nsay w", "1 a", "ends", ("v", "w")),
            ("while more + a\nsay u\nif more + b\nstop\nend\na = none\nend\nsay v", "1 a", "ends", ("u", "v")),
            ("while more + a\nsay u\nif more + b\nstop\nend\na = none\nend\nsay v", "1 a b", "stops", ("u",)), ("while more + a\na = none\nstop\nend", "1 b", "ends", ()),
            ("while even 0\nend", "nobody", "never", ()), ("while least 0\nsay u\nend", "1 a", "never", ()), ("say u\nwhile more + a\nsay v\nend", "1 a", "never", ()),
            ("say u\nwhile more + a\nsay v\nend\nsay w", "1 b", "ends", ("u", "w")), ("say u\na = b\nif more + a\nwhile least 0\nend\nend\nsay v", "2 b", "never", ()),
            ("say u\na = b\nif more + a\nwhile least 0\nend\nend\nsay v", "2 a", "ends", ("u", "v")), ("while more 0\nsay u\nend", "4", "ends", ()),
            ("while more + a\nwhile more + b\nb = none\nsay u\nend\na = none\nsay v\nend", "1 a b", "ends", ("u", "v")),
            ("while more + a\nif more + b\nb = none\nelse\na = none\nend\nsay u\nend", "1 a, 1 b", "ends", ("u", "u")),
        ]:
            outcome = self.told(text, crowd)
            self.assertEqual((outcome.end, outcome.words), (end, words), (text, crowd))

    def test_a_stand_that_comes_again_only_after_several_turns(self):
        # Three names change places: only the third turn begins as the first one did.
        turning = "while more + | | a b c\nd = a\na = b\nb = c\nc = d\nend"
        self.assertEqual(self.told(turning, "1 a, 2 b, 3 c").end, "never")
        self.assertEqual(self.told("say u\n" + turning + "\nsay v", "1 d").words, ("u", "v"))
        # It leaves the loop in the third turn, so two stands alone make no circle.
        leaving = "while more + b - a\nsay u\nd = a\na = b\nb = c\nc = d\nend"
        for crowd, end, words in [("1 a, 2 b, 3 c", "ends", ("u", "u")), ("1 a, 1 b, 1 c", "ends", ()), ("3 a, 2 b, 1 c", "ends", ()), ("1 b", "ends", ("u",))]:
            outcome = self.told(leaving, crowd)
            self.assertEqual((outcome.end, outcome.words), (end, words), crowd)
        # Members go round in groups, one after another, until all are in a.
        growing = "while more + ~ a\nsay u\na = | a b\nb = c\nc = ~ a\nend"
        self.assertEqual(self.told(growing, "1 a, 1 b, 1 c, 1").words, ("u", "u", "u"))

    def test_a_stand_within_the_rows_of_a_loop(self):
        self.assertEqual(self.told("while least 0\na = none\na = b\nend", "1 a, 1 b").end, "never")
        self.assertEqual(self.told("while more + a - b\na = b\nb = a\nend\nsay u", "2 a, 1 b").words, ("u",))

    def test_members_who_are_not_there_do_not_matter(self):
        # The kinds a and b have members, the kind of both has none; so a & b stays the same.
        self.assertEqual(self.told("while more + a\nc = & a b\nc = none\nend", "1 a, 1 b").end, "never")
        self.assertEqual(self.told("while more + & a b\na = none\nend\nsay u", "1 a, 1 b").words, ("u",))

    def test_groups_are_worked_out_with_what_the_names_hold_now(self):
        outcome = self.told("a = b\nb = a\nc = - all a", "1 a, 2 b, 4")
        self.assertEqual([str(outcome[name]) for name in "abcd"], ["2 b", "2 b", "4, 1 a", "nobody"])
        outcome = self.told("a = ~ a\na = ^ a b", "1 a, 2 b, 4 a b, 8")
        self.assertEqual([str(outcome[name]) for name in "ab"], ["8, 4 a b", "4 a b, 2 b"])
        self.assertEqual(outcome.after, Crowd.read("1, 2 b, 8 a, 4 a b"))

    def test_great_crowds(self):
        many = 10 ** 30
        crowd = Crowd([(("a",), many), (("b",), many - 1), (("a", "c"), 1)])
        outcome = run(Program.read("while more + a - b\nsay u\na = - a c\nif even + a - b - c\nstop\nend\nend"), crowd)
        self.assertEqual((outcome.end, outcome.words), ("stops", ("u",)))
        self.assertEqual(outcome["a"], Crowd([(("a",), many)]))

    def test_by_the_names_of_the_parameters(self):
        program, crowd = Program.read("say u"), Crowd.read("1 a")
        self.assertEqual(run(crowd=crowd, program=program), program(crowd=crowd))


class Outcomes(unittest.TestCase):
    def test_names_in_the_program_and_others(self):
        program, crowd = Program.read("a = b\nif more + zz\nend\nsay w"), Crowd.read("1 a d, 2 b w, 4 zz, 8 w d")
        outcome = run(program, crowd)
        self.assertEqual((outcome.names, type(outcome.names)), (("a", "b", "zz"), tuple))
        told = {"a": "2 b w", "b": "2 b w", "zz": "4 zz", "d": "1 a d, 8 d w", "w": "2 b w, 8 d w", "x": "nobody"}
        for name, text in told.items():
            self.assertEqual(str(outcome[name]), text)
            self.assertIs(type(outcome[name]), Crowd)
        self.assertEqual(outcome.after, Crowd.read("1 d, 2 a b w, 4 zz, 8 d w"))

    def test_an_outcome_that_never_comes(self):
        crowd = Crowd.read("1 a d, 2 b")
        outcome = run(Program.read("say u\na = b\nwhile least 0\nsay v\nend"), crowd)
        self.assertEqual((outcome.end, outcome.words, outcome.names), ("never", (), ("a", "b")))
        for name in "abcdx":
            self.assertEqual(outcome[name], Crowd())
        self.assertEqual(outcome.after, crowd)

    def test_after_a_stop(self):
        outcome = run(Program.read("a = none\nstop\nb = none"), Crowd.read("1 a, 2 a b d"))
        self.assertEqual((str(outcome.after), outcome.end), ("1, 2 b d", "stops"))

    def test_members_of_several_kinds_that_end_as_one(self):
        outcome = run(Program.read("a = none\nb = all"), Crowd.read("1 a, 2 a b, 4 b, 8, 16 c"))
        self.assertEqual(str(outcome.after), "15 b, 16 b c")

    def test_equal(self):
        crowd = Crowd.read("1 a, 2 b, 4 a b")
        texts = ["", "say u", "stop", "say u\nstop", "a = b", "a = none", "b = a", "while least 0\nend", "a = a", "a = none\nwhile least 0\nend", "a = b\nb = c", "say v"]
        made = [run(Program.read(text), crowd) for text in texts]
        for at, outcome in enumerate(made):
            for other_at, other in enumerate(made):
                self.assertIs(outcome == other, at == other_at, (texts[at], texts[other_at]))
                self.assertIs(outcome != other, at != other_at)
            for value in any_values():
                if not isinstance(value, Outcome):
                    self.assertIs(outcome == value, False)
                    self.assertIs(value == outcome, False)

    def test_equal_by_what_the_names_hold(self):
        def told(text, crowd):
            return run(Program.read(text), Crowd.read(crowd))

        self.assertEqual(told("a = & a b", "1 a, 2 a b"), told("a = - a - a b", "1 a, 2 a b"))
        # Other crowds, and other names that the program does not have, make no difference by themselves.
        self.assertEqual(told("a = none\nb = none", "1 a"), told("a = none\nb = none", "5 a b, 2"))
        self.assertEqual(told("say u", "1 a"), told("say u", "2 b"))
        self.assertEqual(told("say a\nwhile least 0\nend", "1 a"), told("say b\nwhile least 0\nend", "2 a"))
        self.assertNotEqual(told("a = a", "1 a"), told("a = a", "2 a"))
        self.assertNotEqual(told("a = a", "1 a"), told("a = a", "1 a d"))
        self.assertNotEqual(told("a = none", "1 a"), told("c = none", "1 a"))
        self.assertNotEqual(told("while least 0\nend", "1 a"), told("while least 0\na = a\nend", "1 a"))
        self.assertNotEqual(told("say u\nstop", "nobody"), told("say u", "nobody"))

    def test_outcomes_are_not_iterable(self):
        for outcome in (run(Program(), Crowd()), run(Program.read("a = b"), Crowd.read("1 a"))):
            for use in (iter, list, tuple, lambda value: "a" in value):
                with self.assertRaises(TypeError):
                    use(outcome)

    def test_what_was_passed_is_left_as_it_was(self):
        source = random.Random(434)
        for rows in MADE[:100]:
            program, crowd = program_of(rows), Crowd(made_parts(source, "abc"))
            texts = str(program), str(crowd)
            first = run(program, crowd)
            told = [str(first[name]) for name in "abcz"], str(first.after)
            self.assertEqual(run(program, crowd), first)
            self.assertEqual((str(program), str(crowd)), texts)
            self.assertEqual(([str(first[name]) for name in "abcz"], str(first.after)), told)
            self.assertEqual(first["a"].count(Group.every()), first["a"].size)


if __name__ == "__main__":
    unittest.main()
