"""The examples of the document, all of them."""

import unittest

from mostcrowds.always import alike, needed, parting
from mostcrowds.bridges import bridge_holds
from mostcrowds.claims import Claim
from mostcrowds.crowds import Crowd
from mostcrowds.deciding import follows
from mostcrowds.desk import Desk
from mostcrowds.groups import Group
from mostcrowds.kinds import kinds
from mostcrowds.papers import paper_holds
from mostcrowds.programs import Program
from mostcrowds.runs import run
from mostcrowds.shares import greatest, least
from mostcrowds.tallies import Tally

a, b, c = [Group.named(name) for name in ("a", "b", "c")]


class SectionOne(unittest.TestCase):
    def test_claims(self):
        most = Claim.share(a, b, 2, 3)
        self.assertEqual(
            (str(most), most.tally.weight(("a",)), most.tally.weight(("a", "b"))), ("least + 3 & a b - 2 a", -2, 1)
        )
        self.assertIs(follows([most, Claim.share(a, c, 1, 2)], Claim.share(a, b & c, 1, 6)), True)

    def test_papers(self):
        given = [Claim.share(a, b, 2, 3), Claim.share(a, c, 1, 2), Claim.share(a, b & c, 1, 6).contrary()]
        self.assertEqual((paper_holds(given, (2, 3, 1)), paper_holds(given, (1, 1, 1))), (True, False))
        two, three, one = [claim.tally.weight(("a", "b")) for claim in given]
        self.assertEqual((two, three, one, 2 * two + 3 * three + one), (1, -1, 1, 0))


class SectionFour(unittest.TestCase):
    def test_kinds(self):
        self.assertEqual(kinds(["b", "a"]), ((), ("a",), ("b",), ("a", "b")))

    def test_groups(self):
        two = Group.at_least(2, [a, b, c])
        self.assertEqual(
            (str(two), two == (a & b) | (a & c) | (b & c), two.has(["c", "a"]), a & b < two),
            ("at 2 3 a b c", True, True, True),
        )
        self.assertEqual(
            (str(~a - b), Group.read("- ~ a b") == ~(a | b), str(two.put({"b": a, "c": Group.nothing()}))),
            ("- ~ a b", True, "at 2 3 a a none"),
        )


class SectionsFiveAndSix(unittest.TestCase):
    def test_crowds(self):
        crowd = Crowd([(("b", "a"), 3), ((), 1), (["c"], 2)])
        self.assertEqual(
            (str(crowd), crowd.size, crowd.count(a | c), str(crowd.only(~a)), crowd[("a", "b")]),
            ("1, 3 a b, 2 c", 6, 5, "1, 2 c", 3),
        )

    def test_tallies_and_claims(self):
        crowd = Crowd([(("b", "a"), 3), ((), 1), (["c"], 2)])
        t = Tally.of(a) * 2 - Tally.of(b | c)
        self.assertEqual(
            (str(t), t.weight(("a", "b")), t.on(crowd), t == Tally.read("+ 2 a - | c b")), ("+ 2 a - | b c", 1, 1, True)
        )
        self.assertEqual(
            (str(Claim.more_in(a, b)), Claim.inside(a, b).holds(crowd), str(Claim.some(c).contrary())),
            ("more + a - b", True, "least - c"),
        )


class SectionNine(unittest.TestCase):
    def test_shares(self):
        given = [Claim.share(a, b, 3, 4), Claim.share(a, c, 3, 4)]
        self.assertEqual(str(least(Tally.of(a & b & c), Tally.of(a), given)), "reached 1/2")
        self.assertEqual(
            (str(greatest(Tally.of(a & b), Tally.of(a), [Claim.some(a - b)])), str(greatest(Tally.of(a), Tally.of(b)))),
            ("neared 1/1", "endless"),
        )


class SectionEleven(unittest.TestCase):
    def test_bridges(self):
        first = [Claim.share(a, b, 1, 1), Claim.more_in(a, c)]
        others = [Claim.inside(b, c)]
        self.assertEqual((bridge_holds(first, others, Claim.some(b - c)), bridge_holds(first, others, Claim.some(b))), (True, False))


class SectionThirteen(unittest.TestCase):
    def test_runs(self):
        program = Program.read("while more + a - b\nc = - a b\na = & a b\nsay cut\nend")
        one = run(program, Crowd.read("5 a, 2 a b, 3 b"))
        self.assertEqual(
            (one.end, one.words, str(one["a"]), str(one["c"]), str(one.after)), ("ends", ("cut",), "2 a b", "5 a", "2 a b, 3 b, 5 c")
        )
        self.assertEqual(run(Program.read("while more + a\nb = a\nend"), Crowd.read("1 a")).end, "never")


class SectionFifteen(unittest.TestCase):
    def test_programs(self):
        p = Program.read("if more + a - b\nc = a\nelse\nc = b\nend")
        q = Program.read("c = | a b\nif least + a - b\nc = a\nend")
        self.assertEqual(
            (alike(p, q), len(parting(p, q)), alike(p, q, given=[Claim.inside(b, a)]), needed(p, "c")), (False, 2, True, ("a", "b"))
        )


class SectionSeventeen(unittest.TestCase):
    def test_desks(self):
        desk = Desk()
        for command, told in [
            ("crowd 5 a, 2 a b, 3 b", "10"), ("count - a b", "5"), ("know least + a - b", "1"), ("surely least + - a b - - b a", "yes"),
            ("know more + b - a", "no"), ("program a = & a b ; say w", "2"), ("do", "w"), ("is even + - a b", "yes"),
            ("sure even + - a b", "yes"), ("undo", "yes"), ("undo", "yes"), ("undo", "no"),
        ]:
            self.assertEqual(desk.say(command), told)


if __name__ == "__main__":
    unittest.main()
