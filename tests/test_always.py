"""[34], [36]: what holds of programs on all crowds."""

import random
import unittest

from mostcrowds.always import alike, breach, needed, parting, settled, sure
from mostcrowds.claims import Claim
from mostcrowds.crowds import Crowd
from mostcrowds.deciding import example
from mostcrowds.programs import Program
from mostcrowds.runs import run

from tests.pairs import (
    WORDS, Pair, ends_alike, is_possible_with, kept_parts, looks_alike, made_given, made_pairs, some_hold_together,
)
from tests.programs import kinds_in_order, made_programs, made_test, plain_rows, plain_ways, program_of, ran, weighted_claim
from tests.recipes import put
from tests.values import ClaimRecipe, ClaimText, hold_together, is_so, made_claim

PAIRS = made_pairs(450, 110) + made_pairs(451, 60, "ab", "abc") + made_pairs(452, 30, "ab", "ab")

WRITTEN = [
    ("", "", []), ("", "say u", []), ("stop", "", []), ("stop", "stop\nsay u", []), ("a = b\nb = a", "a = b", []), ("a = b", "a = b\nb = b", []), ("a = b", "b = a", []),
    ("if more + a - b\nc = a\nelse\nc = b\nend", "c = | a b\nif least + a - b\nc = a\nend", []), ("if more + a - b\nc = a\nelse\nc = b\nend", "c = | a b\nif least + a - b\nc = a\nend", ["even + - b a"]),
    ("while more + a\na = & a b\nend", "if more + & a b\nwhile least 0\nend\nend\na = none", []), ("while more + a\na = - a b\nend", "if more + - a b\nwhile more + a\nend\nelse\na = none\nend", []),
    ("while least 0\nend", "while least 0\nsay u\na = b\nend", []), ("while least 0\nend", "while more + a\nend", []), ("while least 0\nend", "while more + a\nend", ["more + a"]),
    ("if more + a\nsay u\nend", "if more + b\nsay u\nend", ["even + a - b"]), ("if more + a\nsay u\nend", "if more + b\nsay u\nend", ["even + a - b", "more + c"]),
    ("if more + a\nsay u\nend", "if more + b\nsay u\nend", ["even + ^ a b"]), ("if more + a\nsay u\nend", "say u", ["least + a - c", "more + c"]), ("say u", "say v", ["more 0"]),
    ("a = b", "a = c", ["more + a", "even + a"]), ("a = b", "a = c", ["even + b", "even + c"]), ("if more + a - b\nif more + b - c\nif more + c - a\nsay u\nend\nend\nend", "", []),
    ("if more + & & a b c\nif more + - a | b c\nif more + - b | a c\nif more + - c | a b\nstop\nend\nend\nend\nend", "", []), ("c = a\na = b\nb = c", "d = b\nb = a\na = d", []),
]
WRITTEN_PAIRS = [
    Pair(*[plain_rows(Program.read(text).rows) for text in texts], [ClaimText(text) for text in given]) for *texts, given in WRITTEN
]


class Alike(unittest.TestCase):
    def test_alike_and_parting(self):
        many = {True: 0, False: 0}
        sizes = set()
        for pair in PAIRS + WRITTEN_PAIRS:
            p, q, given = program_of(pair.rows), program_of(pair.others), pair.claims()
            cases = list(pair.cases())
            is_alike = not some_hold_together(cases)
            self.assertIs(alike(p, q, given=given), is_alike, (str(p), str(q)))
            self.assertIs(alike(p, q, given=tuple(given)), is_alike)
            crowd = parting(p, q, given=given)
            self.assertEqual(crowd is None, is_alike, (str(p), str(q)))
            many[is_alike] += 1
            if crowd is not None:
                self.assert_parts(pair, crowd, cases)
                sizes.add(len(crowd))
        self.assertGreater(min(many.values()), 30)
        self.assertLessEqual({0, 1, 2, 3}, sizes)

    def assert_parts(self, pair, crowd, cases):
        """A crowd parts both programs by their runs, and has members of as few kinds as any."""
        self.assertIs(type(crowd), Crowd)
        self.assertTrue(all(is_so(recipe.word, recipe.value(crowd.parts)) for recipe in pair.given))
        self.assertFalse(ends_alike(pair.rows, pair.others, list(crowd.parts)), str(crowd))
        self.assertLessEqual({name for kind, _ in crowd.parts for name in kind}, set(pair.names))
        if len(crowd) > 0:
            self.assertFalse(is_possible_with(cases, pair.kinds, len(crowd) - 1), str(crowd))

    def test_against_runs_on_many_crowds(self):
        source = random.Random(453)
        for pair in PAIRS + WRITTEN_PAIRS:
            is_alike = alike(program_of(pair.rows), program_of(pair.others), given=pair.claims())
            for _ in range(6):
                parts = kept_parts(source, pair)
                if parts is not None and is_alike:
                    self.assertTrue(ends_alike(pair.rows, pair.others, parts))
                    one, other = [run(program_of(rows), Crowd(parts)) for rows in (pair.rows, pair.others)]
                    self.assertEqual((one.end, one.words), (other.end, other.words))
                    self.assertTrue(all(one[name] == other[name] for name in pair.program_names))

    def test_told_ones(self):
        p, q = [Program.read(text) for text in ("if more + a - b\nc = a\nelse\nc = b\nend", "c = | a b\nif least + a - b\nc = a\nend")]
        self.assertIs(alike(p, q), False)
        self.assertIs(alike(p, q, given=[Claim.read("even + - b a")]), True)
        self.assertEqual(len(parting(p, q)), 2)
        self.assertIsNone(parting(p, q, given=[Claim.read("more 0")]))
        self.assertEqual(parting(Program(), Program.read("say u")), Crowd())
        self.assertIs(alike(p, p), True)
        wanted = [Claim.read(text) for text in ("more + a - b", "more + b - c", "more + c")]
        self.assertGreaterEqual(len(parting(Program(), Program.read("say u"), given=wanted)), 2)

    def test_by_the_names_of_the_parameters(self):
        p, q = Program.read("a = b"), Program.read("a = c")
        given = [Claim.read("even + ^ b c")]
        self.assertEqual((alike(given=given, q=q, p=p), parting(given=given, q=q, p=p), len(parting(q=p, p=q))), (True, None, 1))
        with self.assertRaises(TypeError):
            alike(p, q, given)
        with self.assertRaises(TypeError):
            parting(p, q, given)

    def test_what_was_passed_is_left_as_it_was(self):
        for pair in PAIRS[::10]:
            p, q, given = program_of(pair.rows), program_of(pair.others), pair.claims()
            texts = str(p), str(q), [str(claim) for claim in given]
            first, second = parting(p, q, given=given), parting(p, q, given=given)
            self.assertEqual(first, second)
            self.assertEqual((str(p), str(q), [str(claim) for claim in given]), texts)


class Question(Pair):
    """A program with claims given, and a claim that is asked in the end."""

    def __init__(self, rows, claim, given):
        super().__init__(rows, [], given)
        self.claim = claim
        self.names = sorted(set(self.names) | claim.names())
        self.kinds = kinds_in_order(self.names)

    def asked(self, way):
        """What a member of each kind counts for the claim in the end of a way."""
        names = sorted(self.claim.names())
        return [self.claim.weight(tuple(name for name in names if way.holds(name, kind))) for kind in self.kinds]

    def cases_of(self, words):
        """Those that are kept by crowds on which the claim's tally is so in the end; a word and a factor for each."""
        return [
            [*self.given, *way.claims(), weighted_claim(word, self.kinds, self.names, [factor * x for x in self.asked(way)])]
            for way in self.ways if way.end != "never" for word, factor in words
        ]

    def breaking(self):
        return self.cases_of({"least": [("more", -1)], "more": [("least", -1)], "even": [("more", 1), ("more", -1)]}[self.claim.word])

    def keeping(self):
        return self.cases_of([(self.claim.word, 1)])

    def answer(self, parts):
        """How a crowd answers; `None` if the run never ends."""
        machine = ran(self.rows, parts)
        if machine.end == "never":
            return None
        names = set(self.program_names)
        ended = [tuple(member & names) + tuple(set(kind) - names) for (kind, _), member in zip(parts, machine.members)]
        value = sum(self.claim.weight(tuple(sorted(kind))) * many for kind, (_, many) in zip(ended, parts))
        return is_so(self.claim.word, value)


def made_questions():
    source = random.Random(460)
    made = []
    for rows in made_programs(461, 200, "abc", 6, 3) + made_programs(462, 60, "ab", 8, 3):
        claim = source.choice([made_claim(source, "abc", 2, WORDS), made_test(source, "abc", 2)])
        if len(plain_ways(rows)) <= 9:
            made.append(Question(rows, claim, made_given(source, "abc")))
    for text, claim, given in [
        ("a = & a b", "even + - a b", []), ("a = & a b", "least + b - a", []), ("a = & a b", "more + b - a", []), ("a = & a b", "more + b - a", ["more + - b a"]), ("while least 0\nend", "more 0", []),
        ("while more + a\nend", "even + a", []), ("while more + a\nend", "more + a", []), ("while more + a\nend", "more + a", ["more + a"]), ("stop\na = none", "even + a", []), ("a = none\nstop", "even + a", []),
        ("if more + a - b\na = b\nend", "least + b - a", []), ("if more + a - b\na = b\nelse\nb = a\nend", "even + a - b", []), ("", "least + a", []), ("", "least + a - b", ["more + a - c", "least + c - b"]),
        ("", "even + z", []), ("z = a", "even + z", ["even + a"]), ("", "more + a", ["more + a", "even + a"]), ("a = none", "even 0", []), ("a = b", "least + & a z - z", ["even + - z b"]),
    ]:
        made.append(Question(plain_rows(Program.read(text).rows), ClaimText(claim), [ClaimText(one) for one in given]))
    return made


QUESTIONS = made_questions()


class InTheEnd(unittest.TestCase):
    def test_sure_and_breach(self):
        many = {True: 0, False: 0}
        sizes = set()
        for question in QUESTIONS:
            program, claim, given = program_of(question.rows), question.claim.claim(), question.claims()
            cases = question.breaking()
            is_sure = not some_hold_together(cases)
            self.assertIs(sure(program, claim, given=given), is_sure, (str(program), str(claim)))
            self.assertIs(sure(program, claim, given=tuple(given)), is_sure)
            crowd = breach(program, claim, given=given)
            self.assertEqual(crowd is None, is_sure)
            many[is_sure] += 1
            if crowd is not None:
                sizes.add(len(crowd))
                self.assertTrue(all(is_so(recipe.word, recipe.value(crowd.parts)) for recipe in question.given))
                self.assertIs(question.answer(list(crowd.parts)), False)
                self.assertLessEqual({name for kind, _ in crowd.parts for name in kind}, set(question.names))
                if len(crowd) > 0:
                    self.assertFalse(is_possible_with(cases, question.kinds, len(crowd) - 1))
        self.assertGreater(min(many.values()), 40)
        self.assertLessEqual({0, 1, 2}, sizes)

    def test_settled(self):
        many = {}
        for question in QUESTIONS:
            answers = some_hold_together(question.keeping()), some_hold_together(question.breaking())
            many[answers] = many.get(answers, 0) + 1
            told = settled(program_of(question.rows), question.claim.claim(), given=question.claims())
            self.assertIs(told, not all(answers))
        self.assertEqual(len(many), 4)

    def test_against_runs_on_many_crowds(self):
        source = random.Random(463)
        answers = set()
        for question in QUESTIONS:
            program, claim, given = program_of(question.rows), question.claim.claim(), question.claims()
            found = set()
            for _ in range(8):
                parts = kept_parts(source, question)
                if parts is not None:
                    answer = question.answer(parts)
                    outcome = run(program, Crowd(parts))
                    self.assertEqual(answer, None if outcome.end == "never" else claim.holds(outcome.after))
                    found.add(answer)
            if sure(program, claim, given=given):
                self.assertNotIn(False, found)
            if settled(program, claim, given=given):
                self.assertFalse({True, False} <= found)
            answers |= found
        self.assertEqual(answers, {True, False, None})

    def test_told_ones(self):
        program = Program.read("while more + a - b\na = - a b\nend")
        for text, told in [("least + b - a", True), ("even + a", False), ("more + b", False), ("least + b", True)]:
            self.assertIs(sure(program, Claim.read(text)), told, text)
        self.assertIs(sure(Program.read("while least 0\nend"), Claim.read("more 0")), True)
        self.assertIsNone(breach(Program.read("while least 0\nend"), Claim.read("more 0")))
        self.assertIs(settled(Program.read("while least 0\nend"), Claim.read("more + a")), True)
        self.assertEqual(len(breach(Program(), Claim.read("least + a"), given=[Claim.read("more 0")]) or ()), 0)
        self.assertEqual(breach(Program(), Claim.read("more 0")), Crowd())
        self.assertIs(settled(Program(), Claim.read("more + a")), False)
        self.assertIs(settled(Program.read("a = none"), Claim.read("more + a")), True)
        self.assertIs(settled(Program(), Claim.read("even + a - b"), given=[Claim.read("more + a - b")]), True)

    def test_by_the_names_of_the_parameters(self):
        program, claim, given = Program.read("a = b"), Claim.read("more + a"), [Claim.read("more + b")]
        self.assertEqual((sure(given=given, claim=claim, program=program), settled(given=given, claim=claim, program=program)), (True, True))
        self.assertIsNone(breach(given=given, claim=claim, program=program))
        for ask in (sure, breach, settled):
            with self.assertRaises(TypeError):
                ask(program, claim, given)


class Needed(unittest.TestCase):
    def counts(self, pair, other, name):
        """Whether a name counts, with one more name `x` for who is in it in the second crowd."""
        second = {other: "x"}
        given = pair.given + [ClaimRecipe(recipe.word, [(number, put(group, second)) for number, group in recipe.terms]) for recipe in pair.given]
        every = kinds_in_order(sorted([*pair.names, "x"]))
        for way in pair.ways:
            for against in pair.ways:
                matched = [turned(claim, pair.names, every, other) for claim in against.claims()]
                case = [*given, *way.claims(), *matched]
                if looks_alike(way, against):
                    differing = [kind for kind in every if way.holds(name, kind) != against.holds(name, second_kind(kind, other))]
                    case.append(weighted_claim("more", differing, sorted([*pair.names, "x"]), [1] * len(differing)))
                if hold_together(case):
                    self.assert_apart(pair, example([recipe.claim() for recipe in case]), other, name)
                    return True
        return False

    def assert_apart(self, pair, crowd, other, name):
        """Both crowds that one with the name `x` tells are meant, and have different outcomes."""
        first = [(tuple(one for one in kind if one != "x"), many) for kind, many in crowd.parts]
        second = [(second_kind(kind, other), many) for kind, many in crowd.parts]
        for parts in (first, second):
            self.assertTrue(all(is_so(recipe.word, recipe.value(parts)) for recipe in pair.given))
        one, against = ran(pair.rows, first), ran(pair.rows, second)
        if (one.end, one.words) == (against.end, against.words):
            self.assertNotEqual([name in member for member in one.members], [name in member for member in against.members])

    def test_needed(self):
        source = random.Random(470)
        many = {True: 0, False: 0}
        programs = made_programs(471, 90, "abc", 5, 2) + made_programs(472, 40, "ab", 7, 3)
        for rows in programs:
            if len(plain_ways(rows)) > 6:
                continue
            pair = Pair(rows, [], made_given(source, "abc"))
            program = program_of(rows)
            for name in program.names:
                told = needed(program, name, given=pair.claims())
                found = [other for other in program.names if self.counts(pair, other, name)]
                self.assertEqual(told, tuple(found), (str(program), name, [recipe.text() for recipe in pair.given]))
                for other in program.names:
                    many[other in told] += 1
        self.assertGreater(min(many.values()), 50)

    def test_told_ones(self):
        for text, name, given, told in [
            ("a = a", "a", [], ("a",)), ("a = b", "a", [], ("b",)), ("a = none\nc = a", "c", [], ()), ("if more + a - b\nc = a\nelse\nc = b\nend", "c", [], ("a", "b")),
            ("if more + a - b\nc = a\nelse\nc = b\nend", "a", [], ("a",)), ("if more + a\nsay u\nend\nb = b", "b", [], ("a", "b")), ("if more + a\nsay u\nend\nb = none", "b", [], ("a",)),
            ("if more + a\nsay u\nend\nb = none", "b", ["even + a"], ()), ("a = & a b", "a", ["even + - a b"], ("a",)), ("a = & a b", "a", ["even + ^ a b"], ()), ("a = & a b", "a", ["even + a - b"], ("a", "b")),
            ("while more + a\nend\nb = none", "b", [], ("a",)), ("while least 0\na = b\nend", "a", [], ()), ("if even + - a b - - b a\nc = none\nend", "c", ["more + a - b"], ("c",)),
            ("a = b", "a", ["more 0"], ()), ("a = & b z", "a", ["even + & b z"], ()), ("a = & b z", "a", ["even + z - c", "even + c"], ()), ("if more + b\nstop\nend\na = a", "a", [], ("a", "b")),
        ]:
            program = Program.read(text)
            self.assertEqual(needed(program, name, given=[Claim.read(one) for one in given]), told, (text, name, given))
            self.assertEqual(type(needed(program, name)), tuple)

    def test_by_the_names_of_the_parameters(self):
        self.assertEqual(needed(given=[], name="a", program=Program.read("a = b")), ("b",))
        with self.assertRaises(TypeError):
            needed(Program.read("a = b"), "a", [])


def second_kind(kind, other):
    """The kind in the second crowd: `x` tells who is in the other group there."""
    return tuple(sorted(one if one != "x" else other for one in kind if one != other))


def turned(claim, names, every, other):
    """A claim about the second crowd."""
    return weighted_claim(claim.word, every, sorted([*names, "x"]), [claim.weight(second_kind(kind, other)) for kind in every])


if __name__ == "__main__":
    unittest.main()
