"""[29] to [33]: ways through programs."""

import random
import unittest

from mostcrowds.claims import Claim
from mostcrowds.crowds import Crowd
from mostcrowds.deciding import example
from mostcrowds.groups import Group
from mostcrowds.kinds import kinds
from mostcrowds.programs import Program
from mostcrowds.runs import run
from mostcrowds.tallies import Tally
from mostcrowds.ways import Way, may_circle, may_end, may_stop, measures, way_of, ways

from tests.programs import made_parts, made_programs, made_test, plain_rows, plain_ways, program_of
from tests.values import ClaimGiven, hold_together, made_claim

MADE = [
    rows for rows in [[]] + made_programs(440, 350) + made_programs(441, 100, "ab", 6, 4) + made_programs(442, 60, "abc", 12, 3)
    if measures(program_of(rows))[0] <= 30
]

# Choices, loops, stops, loops that never end, and claims that are settled.
WRITTEN = [
    "", "say u", "stop\nsay u", "a = b\nb = none", "if more + a\nsay u\nelse\nsay v\nend", "if more + a - b\nstop\nend\nsay u", "while more + a\nend", "while more + a\na = none\nend",
    "while more + a - b\na = b\nend\nsay u", "while least 0\nsay u\nend", "if more 0\nstop\nend", "if even + none\nstop\nend", "if more + a - a\nsay u\nelse\nsay v\nend",
    "if more + a - b\nsay u\nend\nif least + 3 a - 3 b\nsay v\nend", "if more + a - b\nsay u\nend\nif more + b - a\nsay v\nend\nif even + 2 b - 2 a\nsay w\nend",
    "if more + 2 a - 4 b\nsay u\nend\nif more + 6 b - 3 a\nsay v\nend", "if more + a - b\nsay u\nend\nif more + a - 2 b\nsay v\nend", "if more - a\nsay u\nend", "if least - a\nsay u\nend",
    "if least + a\nsay u\nend\nif even + a\nsay v\nend", "c = a\nif more + c - b\nsay u\nend\na = none\nif more + c - b\nsay v\nend\nif more + a - b\nsay w\nend",
    "while more + | | a b c\nd = a\na = b\nb = c\nc = d\nend", "while more + b - a\nsay u\nc = a\na = b\nb = c\nend", "while least 0\na = none\na = b\nend",
    "if more + a\nif more + b\nwhile least 0\nend\nelse\nstop\nend\nend\nsay u", "while more + a\nif more + b\nb = none\nsay u\nelse\na = none\nsay v\nend\nend",
    "a = & a b\nif more + a - & a b\nstop\nend\nif more + a - b\nsay u\nend", "if more + all\nsay u\nelse\nsay v\nend", "a = ~ a\nif more + ~ a - | a b\nstop\nend",
]


class Ways(unittest.TestCase):
    def assert_ways(self, program, plain):
        """The ways are those that are found by going each one anew from the beginning."""
        told = ways(program)
        self.assertIs(type(told), tuple)
        self.assertEqual(len(told), len(plain), str(program))
        every = kinds(program.names)
        for way, other in zip(told, plain):
            self.assertIs(type(way), Way)
            self.assertEqual((way.end, way.words), (other.machine.end, tuple(other.machine.words)))
            self.assertTrue(all(type(pair) is tuple and type(pair[0]) is Tally for pair in way.signs))
            asked = [([tally.weight(kind) for kind in every], sign) for tally, sign in way.signs]
            self.assertEqual((asked, type(way.signs), type(way.words)), (other.asked, tuple, tuple))
            self.assertLessEqual({name for tally, _ in way.signs for name in tally.names}, set(program.names))
            words = {1: "more", 0: "even", -1: "more"}
            self.assertEqual(type(way.claims), tuple)
            self.assertEqual(
                [(claim.word, claim.tally) for claim in way.claims],
                [(words[sign], -tally if sign < 0 else tally) for tally, sign in way.signs],
            )
            for name in program.names:
                held = [kind for kind, member in zip(every, other.machine.members) if name in member]
                found = [] if way.end == "never" else held
                self.assertEqual([kind for kind in every if way[name].has(kind)], found)
                self.assertLessEqual(set(way[name].names), set(program.names))
            for name in ("d", "zz"):
                if name not in program.names:
                    self.assertEqual(way[name], Group.nothing() if way.end == "never" else Group.named(name))
        return told

    def test_made_ones(self):
        many = {}
        for rows in MADE:
            told = self.assert_ways(program_of(rows), plain_ways(rows))
            many[len(told)] = many.get(len(told), 0) + 1
            for way in told:
                many[way.end] = many.get(way.end, 0) + 1
        self.assertGreater(min(many[end] for end in ("ends", "stops", "never")), 100)
        self.assertGreater(len(many), 15)

    def test_written_ones(self):
        for text in WRITTEN:
            program = Program.read(text)
            self.assert_ways(program, plain_ways(plain_rows(program.rows)))

    def told(self, text):
        return [([sign for _, sign in way.signs], way.end, way.words) for way in ways(Program.read(text))]

    def test_the_order_and_the_signs_that_can_come(self):
        for text, told in [
            ("", [([], "ends", ())]), ("if more + a - b\nsay u\nend", [([1], "ends", ("u",)), ([0], "ends", ()), ([-1], "ends", ())]),
            ("if more + a\nsay u\nend", [([1], "ends", ("u",)), ([0], "ends", ())]), ("if least - a\nsay u\nend", [([0], "ends", ("u",)), ([-1], "ends", ())]),
            ("if more 0\nsay u\nelse\nstop\nend", [([], "stops", ())]), ("if even + a\nsay u\nend\nif more - b\nsay v\nend", [
                ([1, 0], "ends", ()), ([1, -1], "ends", ()), ([0, 0], "ends", ("u",)), ([0, -1], "ends", ("u",)),
            ]),
            ("if more + a - b\nif more + b\nstop\nend\nend", [([1, 1], "stops", ()), ([1, 0], "ends", ()), ([0], "ends", ()), ([-1], "ends", ())]),
            ("say u\nwhile more + a\nsay v\nend", [([1], "never", ()), ([0], "ends", ("u",))]), ("while least 0\nend", [([], "never", ())]),
            ("while more + a\nsay u\na = & a b\nend", [([1, 1], "never", ()), ([1, 0], "ends", ("u",)), ([0], "ends", ())]),
        ]:
            self.assertEqual(self.told(text), told, text)

    def test_settled_claims(self):
        for text, many in [
            ("if more + a - b\nend\nif more + a - b\nend", 3), ("if more + a - b\nend\nif least + 5 b - 5 a\nend", 3), ("if more + 4 a - 6 b\nend\nif even + 6 a - 9 b\nend", 3),
            ("if more + 4 a - 6 b\nend\nif even + 9 b - 6 a\nend", 3), ("if more + 4 a - 6 b\nend\nif even + 4 a - 7 b\nend", 9), ("if more + a\nend\nif more + a - b\nend", 6),
            ("if more + a\nend\nif more + | a b\nend", 4), ("if more + a - a\nend", 1), ("if more + a - b\nend\na = none\nif more + a - b\nend", 6),
            ("if more + a - b\nend\nc = a\na = b\nb = c\nif more + a - b\nend", 3), ("if even + a - b\nend\nif more + - a b - - b a\nend", 3),
            ("if more + 999999 a - 999998 b\nend\nif more + 999998 a - 999997 b\nend", 9), ("if more + a - b\nend\nif even + c - c\nend", 3),
        ]:
            self.assertEqual(len(ways(Program.read(text))), many, text)
        opposite = self.told("if more + 4 a - 6 b\nsay u\nend\nif more + 9 b - 6 a\nsay v\nend\nif least + 2 a - 3 b\nsay w\nend")
        self.assertEqual(opposite, [([1], "ends", ("u", "w")), ([0], "ends", ("w",)), ([-1], "ends", ("v",))])

    def test_what_is_asked_is_told_by_groups_of_the_beginning(self):
        first, second = ways(Program.read("a = - a b\nc = a\nwhile more + 2 c - 3 b\nc = none\nend"))[:2]
        (tally, sign), (other, other_sign) = first.signs
        self.assertEqual((tally, sign), (Tally.read("+ 2 - a b - 3 b"), 1))
        self.assertEqual((other, other_sign), (Tally.read("- 3 b"), 0))
        self.assertEqual([str(claim.word) for claim in second.claims], ["more", "more"])
        self.assertEqual(second.claims[1], Claim.read("more + b"))
        self.assertEqual((first["a"], first["b"], first["c"]), (Group.read("- a b"), Group.named("b"), Group.nothing()))

    def test_ways_are_not_iterable(self):
        for way in ways(Program.read("while more + a\nend")):
            for use in (iter, list, tuple, lambda value: "a" in value):
                with self.assertRaises(TypeError):
                    use(way)

    def test_what_they_tell_may_be_passed_on(self):
        for rows in MADE[::6]:
            for way in ways(program_of(rows)):
                group = Group.at_least(2, [way["a"], ~way["b"], way["z"] & way["c"]])
                claims = [*way.claims, Claim.some(group), Claim("even", Tally([(2, way["a"] ^ group)]))]
                self.assertEqual(example(claims) is not None, hold_together([ClaimGiven(claim) for claim in claims]))

    def test_by_the_names_of_the_parameters(self):
        program, crowd = Program.read("if more + a\nend"), Crowd.read("1 a")
        self.assertEqual((len(ways(program=program)), way_of(crowd=crowd, program=program), measures(program=program)), (2, 0, (2, 1)))
        for ask, told in ((may_end, True), (may_stop, False), (may_circle, False)):
            self.assertIs(ask(claims=[], program=program), told)

    def test_what_was_passed_is_left_as_it_was(self):
        for rows in MADE[::10]:
            program = program_of(rows)
            text = str(program)
            first, second = ways(program), ways(program)
            self.assertEqual([(way.end, way.words) for way in first], [(way.end, way.words) for way in second])
            self.assertEqual([way.claims for way in first], [way.claims for way in second])
            self.assertEqual([way["a"] for way in first], [way["a"] for way in second])
            self.assertEqual(str(program), text)


class InACrowd(unittest.TestCase):
    def test_exactly_one_way_is_gone(self):
        source = random.Random(443)
        gone = set()
        for at, rows in enumerate(MADE):
            program = program_of(rows)
            told = ways(program)
            for _ in range(4):
                crowd = Crowd(made_parts(source, "abcd"))
                kept = [number for number, way in enumerate(told) if all(claim.holds(crowd) for claim in way.claims)]
                self.assertEqual(len(kept), 1)
                self.assertEqual(way_of(program, crowd), kept[0])
                self.assert_outcome(run(program, crowd), told[kept[0]], crowd)
                gone.add((at, kept[0]))
        self.assertGreater(len({number for _, number in gone}), 10)

    def assert_outcome(self, outcome, way, crowd):
        self.assertEqual((outcome.end, outcome.words), (way.end, way.words))
        for name in "abcdz":
            self.assertEqual(outcome[name], crowd.only(way[name]))

    def test_ways_that_are_gone_by_some_crowd(self):
        for rows in MADE[::4]:
            program = program_of(rows)
            for number, way in enumerate(ways(program)):
                crowd = example(way.claims)
                if crowd is not None:
                    self.assertEqual(way_of(program, crowd), number)
                    self.assert_outcome(run(program, crowd), way, crowd)
                    self.assert_outcome(run(program, crowd * 3), way, crowd * 3)


class MayCome(unittest.TestCase):
    def test_made_ones(self):
        source = random.Random(444)
        told = {}
        for rows in MADE[::2]:
            program = program_of(rows)
            for claims in ([], [made_claim(source, "abc", 2, ("least", "more", "even")) for _ in range(2)], [made_test(source, "ad", 2) for _ in range(2)]):
                for ask, end in ((may_end, "ends"), (may_stop, "stops"), (may_circle, "never")):
                    found = any(hold_together([*claims, *[ClaimGiven(claim) for claim in way.claims]]) for way in ways(program) if way.end == end)
                    for make in (list, tuple):
                        self.assertIs(ask(program, make([claim.claim() for claim in claims])), found)
                    told[end, found] = told.get((end, found), 0) + 1
        self.assertEqual(len(told), 6)
        self.assertGreater(min(told.values()), 30)

    def test_told_ones(self):
        program = Program.read("while more + a\nif more + b\nstop\nend\na = & a c\nend")
        for texts, told in [
            ([], (True, True, True)), (["more + b", "more + a"], (False, True, False)), (["even + a"], (True, False, False)), (["even + b"], (True, False, True)),
            (["even + b", "more + & a c"], (False, False, True)), (["even + b", "even + & a c", "more + a"], (True, False, False)), (["more 0"], (False, False, False)),
            (["even + - a d", "even + d"], (True, False, False)), (["even + b", "even + - a d", "even + & c d", "more + d - b"], (True, False, False)),
        ]:
            claims = [Claim.read(text) for text in texts]
            self.assertEqual((may_end(program, claims), may_stop(program, claims), may_circle(program, claims)), told, texts)
        self.assertEqual((may_end(program), may_stop(program), may_circle(program)), (True, True, True))
        for text, told in [("", (True, False, False)), ("stop", (False, True, False)), ("while least 0\nend", (False, False, True))]:
            self.assertEqual([ask(Program.read(text)) for ask in (may_end, may_stop, may_circle)], list(told))

    def test_ways_that_no_crowd_goes(self):
        program = Program.read("if even + a\nif more + & a b\nstop\nend\nend")
        self.assertEqual(sorted(way.end for way in ways(program)), ["ends", "ends", "stops"])
        self.assertIs(may_stop(program), False)


class Measures(unittest.TestCase):
    def test_made_ones(self):
        for rows in MADE:
            plain = plain_ways(rows)
            told = measures(program_of(rows))
            self.assertEqual(told, (len(plain), max(way.rows_done for way in plain)))
            self.assertEqual(type(told), tuple)

    def test_told_ones(self):
        for text, told in [
            ("", (1, 0)), ("say u", (1, 1)), ("a = b\nb = a\nstop\nsay u", (1, 3)), ("if more + a\nend", (2, 1)), ("if more + a\nsay u\nsay v\nelse\nsay u\nend", (2, 3)),
            ("while more 0\nsay u\nend", (1, 1)), ("while least 0\nend", (1, 1)), ("while least 0\nsay u\nend", (1, 2)), ("while least 0\na = none\na = b\nend", (1, 5)),
            ("while more + a\na = none\nend", (2, 3)), ("while more + a\nend\nsay u", (2, 2)), ("while more + a\nsay u\nend\nsay v\nsay v\nsay v", (2, 4)),
            ("while least 0\nd = a\na = b\nb = d\nend", (1, 10)), ("if more + a - b\nsay u\nend\nif more + b - a\nsay v\nend", (3, 3)),
        ]:
            self.assertEqual(measures(Program.read(text)), told, text)


if __name__ == "__main__":
    unittest.main()
