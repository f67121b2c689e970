"""[39], [40]: desks and their commands."""

import random
import unittest

from mostcrowds.always import sure
from mostcrowds.claims import Claim
from mostcrowds.crowds import Crowd
from mostcrowds.deciding import follows, possible
from mostcrowds.desk import Desk
from mostcrowds.errors import CrowdError, Endless, InvalidCommand, InvalidText
from mostcrowds.groups import Group
from mostcrowds.halls import Hall
from mostcrowds.programs import Program
from mostcrowds.runs import run

from tests.programs import made_parts, made_programs, program_of, program_text
from tests.values import any_values, made_claims


def stand(desk):
    return str(desk.hall.crowd), len(desk.hall), [str(claim) for claim in desk.claims], str(desk.program)


def made_desk():
    desk = Desk()
    desk.say("crowd 5 a, 2 a b, 3 b")
    desk.say("know more + a")
    desk.say("program while more + a - b ; a = & a b ; say w ; end")
    return desk


class Commands(unittest.TestCase):
    def test_at_the_beginning(self):
        desk = Desk()
        self.assertEqual((type(desk.hall), type(desk.program), desk.claims, len(desk)), (Hall, Program, (), 0))
        self.assertEqual(stand(desk), ("nobody", 0, [], ""))
        for command, told in [("undo", "no"), ("do", "-"), ("count all", "0"), ("is even + all", "yes"), ("surely least + a", "yes"), ("surely more + a", "no"), ("sure least + a", "yes")]:
            self.assertEqual(desk.say(command), told)
        self.assertEqual(desk.say(command="undo"), "yes")

    def test_the_crowd(self):
        desk = Desk()
        hall = desk.hall
        for text, told in [("5 a, 2 a b, 3 b", "10"), ("nobody", "0"), ("0 a", "0"), ("1", "1"), ("2 b a, 1 a b, 4", "7"), (f"{10 ** 30} a", str(10 ** 30)), ("1 a", "1"), ("1 a", "1")]:
            many = len(hall)
            self.assertEqual(desk.say(f"crowd {text}"), told)
            self.assertEqual((hall.crowd, len(hall)), (Crowd.read(text), many + 1))
        self.assertIs(desk.hall, hall)

    def test_counting_and_asking(self):
        desk = made_desk()
        before = stand(desk)
        for text in ("a", "- a b", "& a b", "at 1 2 a b", "none", "~ c"):
            self.assertEqual(desk.say(f"count {text}"), str(desk.hall.crowd.count(Group.read(text))))
        for text in ("more + a - b", "even + & a c", "least 0", "more + 2 b - a"):
            self.assertEqual(desk.say(f"is {text}"), "yes" if Claim.read(text).holds(desk.hall.crowd) else "no")
        self.assertEqual(stand(desk), before)

    def test_knowing(self):
        desk = Desk()
        for text, told, many in [
            ("more + a - b", "1", 1), ("more + b - a", "no", 1), ("more + b - c", "2", 2), ("least + c - a", "no", 2), ("least + a - c", "3", 3), ("more 0", "no", 3), ("least 0", "4", 4), ("more + a - b", "5", 5),
        ]:
            self.assertEqual(desk.say(f"know {text}"), told)
            self.assertEqual((len(desk), len(desk.claims), type(desk.claims)), (many, many, tuple))
        self.assertEqual([str(claim) for claim in desk.claims], ["more + a - b", "more + b - c", "least + a - c", "least 0", "more + a - b"])
        self.assertEqual([desk.say(f"surely {text}") for text in ("more + a - c", "more + c", "more + a", "even + a", "least + 2 a - b - c")], ["yes", "no", "yes", "no", "yes"])

    def test_programs(self):
        desk = Desk()
        for text, told, program in [
            ("stop", "1", "stop"), ("say w ; say v", "2", "say w\nsay v"), ("while more + a ; a = none ; end", "2", "while more + a\na = none\nend"),
            ("if more + a ; else ; stop ; end", "2", "if more + a\nelse\nstop\nend"), ("if more + a ; else ; end ; a = b", "2", "if more + a\nend\na = b"),
        ]:
            self.assertEqual(desk.say(f"program {text}"), told)
            self.assertEqual(desk.program, Program.read(program))

    def test_doing(self):
        desk = made_desk()
        self.assertEqual((desk.say("do"), str(desk.hall.crowd), len(desk.hall)), ("w", "5, 2 a b, 3 b", 2))
        self.assertEqual((desk.say("do"), len(desk.hall)), ("-", 3))
        desk.say("program say u ; say v ; say u ; stop ; say w")
        self.assertEqual(desk.say("do"), "u v u")
        self.assertEqual([desk.say("undo") for _ in range(5)], ["yes"] * 4 + ["no"])
        self.assertEqual(str(desk.hall.crowd), "nobody")

    def test_sure(self):
        desk = made_desk()
        for text, told in [("least + b - a", "yes"), ("even + - a b", "no"), ("more + a", "no"), ("more + b", "no")]:
            self.assertEqual(desk.say(f"sure {text}"), told, text)
        desk.say("know more + b")
        self.assertEqual(desk.say("sure more + b"), "yes")

    def test_made_ones(self):
        source = random.Random(500)
        said = set()
        for rows, recipes in zip(made_programs(501, 120, "abc", 6), made_claims(502, 120, "abc", 3, 2)):
            desk = Desk()
            crowd, program = Crowd(made_parts(source, "abc")), program_of(rows)
            self.assertEqual(desk.say(f"crowd {crowd}"), str(crowd.size))
            self.assertEqual(desk.say("program " + program_text(rows).replace("\n", " ; ")), str(len(program)))
            self.assertEqual(desk.program, program)
            known = []
            for recipe in recipes:
                claim = recipe.claim()
                self.assertEqual(desk.say(f"is {claim}"), "yes" if claim.holds(crowd) else "no")
                self.assertEqual(desk.say(f"surely {claim}"), "yes" if follows(known, claim) else "no")
                self.assertEqual(desk.say(f"sure {claim}"), "yes" if sure(program, claim, given=known) else "no")
                told = desk.say(f"know {claim}")
                self.assertEqual(told, str(len(known) + 1) if possible([*known, claim]) else "no")
                known += [claim] if told != "no" else []
                self.assertEqual(list(desk.claims), known)
                said.add(told)
            outcome = run(program, crowd)
            if outcome.end == "never":
                with self.assertRaises(Endless):
                    desk.say("do")
            else:
                self.assertEqual((desk.say("do"), desk.hall.crowd), (" ".join(outcome.words) or "-", outcome.after))
        self.assertLessEqual({"no", "1", "2", "3"}, said)


WRONG = [
    "", " ", "  ", "\n", "what", "Crowd 1 a", "crowds 1 a", "do it", "do ", " do", "do do", "undo 1", "undo ", " undo", "undo\n", "do\n", "\ndo", "say w", "stop", "help", ";", "a = b",
    "crowd", "crowd ", "crowd  1 a", "crowd 1  a", "crowd 1 a ", " crowd 1 a", "crowd a", "crowd 1 a,2 b", "crowd 1 a , 2 b", "crowd 1 a a", "crowd 01 a", "crowd -1 a", "crowd 1 A", "crowd 1 all",
    "crowd 1 a, nobody", "crowd nobody nobody", "crowd nobody,", "crowd 1 a\n", "crowd 1 a, 2\nb", "crowd " + "1" * 32, "crowd None", "crowd 1 abcde",
    "count", "count ", "count &", "count & a", "count & a b c", "count a b", "count A", "count at 1", "count + a", "count a ", "count a\n", "count  a", "count if",
    "is", "is ", "is a", "is more", "is more a", "is more + a b", "is more + a ", "is  more + a", "is More + a", "is least 00", "is more + a\nb", "is least 0 + a",
    "know", "know ", "know a", "know most + a", "know more + A", "know more + a -", "know  more + a", "know more + a\n", "surely", "surely ", "surely a", "surely more +", "surely  even 0", "surely even 0 ",
    "sure", "sure ", "sure a", "sure more + a +", "sure  even 0", "sure even 0\n", "program", "program ", "program  say w", "program say w ", "program say  w", "program say w\nsay v", "program\nsay w",
    "program say w ;  say v", "program say w  ; say v", "program a = b ; ", "program ; ", "sure more + a ; stop", "crowd 1 a ; 2 b",
]
WRONG_PROGRAMS = [
    ("what", 0), (";", 0), ("say w ;", 0), ("; say w", 0), ("say w;", 0), ("say w; say v", 0), ("say w ;say v", 0), ("say w ; ; say v", 1), ("; ; ;", 0), ("; ;", 0), ("say w ; what ; say v", 1),
    ("if more + a", 1), ("if more + a ; say w", 2), ("else", 0), ("end", 0), ("stop ; end", 1), ("while more + a ; else ; end", 1), ("if more + a ; else ; else ; end", 2), ("say", 0), ("a = ; stop", 0),
    ("a =", 0), ("a = b ; b =", 1), ("say w ; stop ; all = b", 2), ("say w ; say v ;", 1),
]


class Wrong(unittest.TestCase):
    def test_wrong_commands(self):
        for desk in (Desk(), made_desk()):
            before = stand(desk)
            for command in WRONG:
                with self.assertRaises(InvalidCommand, msg=command) as caught:
                    desk.say(command)
                self.assertIs(type(caught.exception), InvalidCommand)
                self.assertIsInstance(caught.exception, CrowdError)
                self.assertEqual(stand(desk), before)

    def test_values_of_all_sorts(self):
        desk = made_desk()
        before = stand(desk)
        for value in any_values() + [b"do", ["do"], ("undo",)]:
            with self.assertRaises(InvalidCommand):
                desk.say(value)
            self.assertEqual(stand(desk), before)

    def test_wrong_programs(self):
        desk = made_desk()
        before = stand(desk)
        for text, at in WRONG_PROGRAMS:
            with self.assertRaises(InvalidText, msg=text) as caught:
                desk.say(f"program {text}")
            self.assertEqual((caught.exception.at, type(caught.exception)), (at, InvalidText), text)
            self.assertEqual(stand(desk), before)

    def test_a_run_that_never_ends(self):
        desk = made_desk()
        desk.say("program say u ; while more + a ; end")
        before = stand(desk)
        with self.assertRaises(Endless) as caught:
            desk.say("do")
        self.assertIs(type(caught.exception), Endless)
        self.assertEqual(stand(desk), before)

    def test_a_claim_that_is_refused(self):
        desk = made_desk()
        before = stand(desk)
        claims = desk.claims
        self.assertEqual(desk.say("know even + a"), "no")
        self.assertEqual(stand(desk), before)
        self.assertEqual(desk.claims, claims)

    def test_desks_are_not_iterable_and_do_not_meet(self):
        one, other = made_desk(), Desk()
        with self.assertRaises(TypeError):
            iter(one)
        with self.assertRaises(TypeError):
            "do" in one
        self.assertEqual((stand(other), len(one)), (("nobody", 0, [], ""), 1))


if __name__ == "__main__":
    unittest.main()
