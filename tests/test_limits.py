"""[3]: calls at the limits and somewhat beyond them raise no error and are answered within seconds."""

import random
import time
import unittest

from mostcrowds.always import alike, breach, needed, parting, settled, sure, tree, tree_holds
from mostcrowds.bridges import bridge, bridge_holds
from mostcrowds.claims import Claim
from mostcrowds.cores import core, cores, needless, same_claims, thinned
from mostcrowds.crowds import Crowd
from mostcrowds.deciding import example, fewest, follows, fullest, open_kinds, possible
from mostcrowds.desk import Desk
from mostcrowds.groups import Group
from mostcrowds.halls import Hall
from mostcrowds.kinds import kinds
from mostcrowds.papers import paper, paper_holds
from mostcrowds.programs import Program
from mostcrowds.rows import If, Let, Say
from mostcrowds.runs import run
from mostcrowds.shares import greatest, least, nearing, share_paper, share_paper_holds
from mostcrowds.tallies import Tally
from mostcrowds.ways import may_circle, may_end, may_stop, measures, way_of, ways

from tests.programs import kind_recipe
from tests.recipes import group_of

SECONDS = 10
WORDS = ("least", "more", "even")


def great_group(source, names, depth):
    """A group with signs nested just so deep, some of them with eight items."""
    if depth == 0:
        return Group.named(source.choice(names))
    inner = great_group(source, names, depth - 1)
    other = Group.named(source.choice(names))
    sign = source.randrange(6)
    if sign == 0:
        return ~inner
    if sign == 1:
        items = [inner] + [Group.named(source.choice(names)) for _ in range(7)]
        return Group.at_least(source.choice([2, 3, 30]), source.sample(items, 8))
    return [inner & other, inner | other, inner - other, inner ^ other][sign - 2]


def great_tally(source, names, terms=8, numbers=10 ** 6):
    return Tally([(source.randint(-numbers, numbers), great_group(source, names, 8)) for _ in range(terms)])


def great_claims(source, names, many=6, terms=8, words=WORDS):
    return [Claim(source.choice(words), great_tally(source, names, terms)) for _ in range(many)]


def balanced(source, names, word, numbers=10 ** 6):
    """A claim whose weights are as different as can be: a number of its own for each kind."""
    every = kinds(names)
    return Claim(word, Tally([(source.randint(-numbers, numbers), group_of(kind_recipe(kind, names))) for kind in every]))


def balanced_claims(source, names, many=6, words=WORDS):
    """Such claims that a crowd with members keeps, as many of them as there are."""
    claims = [balanced(source, names, source.choice(words)) for _ in range(many)]
    while not possible([*claims, Claim.read("more + all")]):
        claims = claims[1:]
    return claims


def great_program(source, names, threes, twos):
    """A program with so many claims for which three signs can come, and at most one for which two can come."""
    rows = [If(Claim.read("more + all"), [Say("v")], [Let("c", Group.read("~ c"))])] * twos
    for _ in range(threes):
        body = [Let(source.choice(names), great_group(source, names, 3))] if source.random() < 0.7 else [Say(source.choice("uv"))]
        rows.append(If(balanced(source, names, source.choice(WORDS)), body, [Say("w")]))
    return Program(rows)


class Quick(unittest.TestCase):
    def answered(self, call, *passed, **named):
        start = time.perf_counter()
        answer = call(*passed, **named)
        self.assertLess(time.perf_counter() - start, SECONDS, call)
        return answer

    def test_groups(self):
        source = random.Random(510)
        for names in ("abcde", "abcdefgh"):
            for depth in (8, 12):
                group, other = great_group(source, names, depth), great_group(source, names, depth)
                for call in (lambda: group == other, lambda: group < other, lambda: bool(group), lambda: Group.read(str(group)) == group, lambda: group.put({"a": other, "b": group}).names):
                    self.answered(call)

    def test_deciding_and_papers(self):
        source = random.Random(511)
        for names, many in [("abcde", 6), ("abcdef", 8)]:
            for make in (great_claims, balanced_claims):
                for words in (WORDS, ("least", "more"), ("more",), ("even", "least")):
                    claims = make(source, names, many, words=words)
                    claim = make(source, names, 1)[:1] or [Claim.read("more + a")]
                    for call in (possible, example, paper):
                        self.answered(call, claims)
                    self.answered(follows, claims, claim[0])
                    self.answered(paper_holds, claims, tuple(range(len(claims))))
        for names in ("abcd", "abcde"):
            for make in (great_claims, balanced_claims):
                claims = make(source, names)
                self.answered(open_kinds, claims)
                self.answered(fullest, claims)

    def test_fewest_and_cores(self):
        source = random.Random(512)
        for names in ("abc", "abcd"):
            for words in (WORDS, ("least", "more"), ("even", "least", "more", "even")):
                for make in (great_claims, balanced_claims):
                    claims = make(source, names, words=words)
                    self.answered(fewest, claims)
                    for call in (core, cores, needless, thinned):
                        self.answered(call, claims)
                    self.answered(same_claims, claims, claims[::-1])

    def test_a_crowd_that_needs_many_kinds(self):
        for names in ("abc", "abcd"):
            every = kinds(names)
            claims = [Claim.some(group_of(kind_recipe(kind, names))) for kind in every[:6]]
            self.assertEqual(len(self.answered(fewest, claims)), 6)
            claims = [Claim("even", Tally([(1, group_of(kind_recipe(kind, names))), (-2, group_of(kind_recipe(other, names)))])) for kind, other in zip(every[:6], every[1:])]
            first = Claim.some(group_of(kind_recipe(every[0], names)))
            self.assertEqual(len(self.answered(fewest, [*claims, first])), 7)

    def test_shares(self):
        source = random.Random(513)
        for names in ("abcd", "abcde"):
            for make in (great_claims, balanced_claims):
                claims = make(source, names)
                top, bottom = great_tally(source, names), great_tally(source, names)
                for call in (greatest, least):
                    self.answered(call, top, bottom, claims)
                for value in [(10 ** 10, 1), (1, 10 ** 10), (-(10 ** 10), 10 ** 10 - 1), (10 ** 10 - 1, 10 ** 10)]:
                    shown = self.answered(share_paper, top, bottom, claims, value)
                    self.answered(share_paper_holds, top, bottom, claims, value, shown)
                    self.answered(nearing, top, bottom, claims, value)
        many = [Claim.share(great_group(source, "abcd", 8), great_group(source, "abcd", 8), 10 ** 10 - at, 10 ** 10) for at in range(6)]
        self.answered(greatest, top, bottom, many)
        self.answered(possible, many)

    def test_bridges(self):
        source = random.Random(514)
        found = 0
        for mine, theirs in [("abc", "abc"), ("abc", "bcd"), ("abc", "cde"), ("ab", "cde"), ("abcd", "cdef")]:
            for make in (great_claims, balanced_claims):
                claims, others = make(source, mine), make(source, theirs)
                others = [*others[:5], Claim("least", -claims[0].tally)] if claims and set(claims[0].names) <= set(theirs) else others
                told = self.answered(bridge, claims, others)
                found += told is not None
                self.assertIs(self.answered(bridge_holds, claims, others, told), told is not None)
        self.assertGreater(found, 0)

    def test_runs(self):
        names = "abcde"
        crowd = Crowd([(kind, 10 ** 30 - at) for at, kind in enumerate(kinds(names))])
        loop = Program.read("while more + | | a b c\nend")
        self.assertEqual(self.answered(run, loop, crowd).end, "never")
        long = Program.read("a = b\nb = c\nsay u\nif more + a - b\nb = ~ a\nend\nc = ^ a b") * 6
        self.assertEqual(len(self.answered(run, long, crowd * 10).words), 6)
        turning = Program.read("while more + | | a b c\nif even + a - b - c\nsay u\nend\nd = a\na = b\nb = ^ c d\nc = d\nend") * 2
        self.answered(run, turning, crowd + crowd)
        hall = Hall(crowd)
        self.answered(hall.do, long)

    def test_ways(self):
        source = random.Random(515)
        for program in [great_program(source, "abc", 3, 1), great_program(source, "abc", 3, 1), great_program(source, "abcd", 4, 0)]:
            many, _ = self.answered(measures, program)
            self.assertIn(many, (54, 81))
            self.assertEqual(len(self.answered(ways, program)), many)
            crowd = Crowd([(kind, 10 ** 30 - at) for at, kind in enumerate(kinds("abcde"))])
            self.assertLess(self.answered(way_of, program, crowd), many)
            for claims in ([], balanced_claims(source, "abcde"), balanced_claims(source, "defgh", 7)):
                for call in (may_end, may_stop, may_circle):
                    self.answered(call, program, claims)

    def test_always(self):
        source = random.Random(516)
        for names in ("abc", "abcd"):
            for mine, theirs, product in [((3, 1), (0, 0), 54), ((2, 1), (1, 0), 54), ((2, 0), (1, 1), 54)]:
                p, q = great_program(source, names, *mine), great_program(source, names, *theirs)
                self.assertEqual(measures(p)[0] * measures(q)[0], product)
                for given in ([], balanced_claims(source, names)):
                    self.answered(alike, p, q, given=given)
                    self.answered(parting, p, q, given=given)
                    self.answered(tree, p, q, given=given)
                    claim = balanced(source, names, source.choice(WORDS))
                    for call in (sure, breach, settled):
                        self.answered(call, p, claim, given=given)
            small = great_program(source, names, 1, 1)
            for given in ([], balanced_claims(source, names)):
                shown = self.answered(tree, small, small, given=given)
                self.assertIs(self.answered(tree_holds, small, small, shown, given=given), True)
                for name in small.names:
                    self.answered(needed, small, name, given=given)

    def test_long_ways(self):
        lines = ["d = a", "a = b", "b = ^ c d", "c = d", "say u"]
        program = Program.read("\n".join(["while more + | a b", *lines, "if more + a - b", "say v", "end", "end"]))
        many, rows = self.answered(measures, program)
        self.assertGreater(rows, 40)
        self.assertEqual(len(self.answered(ways, program)), many)
        if many <= 60:
            self.assertIs(self.answered(sure, program, Claim.read("least + a")), True)

    def test_texts(self):
        text = "\n".join(["a = & & & & & & & a b c a b c a b"] * 60)
        self.assertEqual(str(self.answered(Program.read, text)), text)
        words = " ".join(["+ 999999 at 30 2 a b"] * 100)
        self.assertEqual(str(self.answered(Tally.read, words)), words)
        desk = Desk()
        self.answered(desk.say, "program " + " ; ".join(["say w"] * 240))
        self.assertEqual(self.answered(desk.say, "do"), " ".join(["w"] * 240))
        deep = "\n".join(["if more + a"] * 30 + ["say w"] + ["end"] * 30)
        self.assertEqual(str(self.answered(Program.read, deep)), deep)
        self.assertEqual(len(self.answered(ways, Program.read(deep))), 2)

    def test_a_desk(self):
        source = random.Random(517)
        desk = Desk()
        program = great_program(source, "abc", 3, 1)
        self.answered(desk.say, "program " + str(program).replace("\n", " ; "))
        for claim in balanced_claims(source, "abc"):
            self.answered(desk.say, f"know {claim}")
            self.answered(desk.say, f"surely {claim}")
            self.answered(desk.say, f"sure {claim}")


if __name__ == "__main__":
    unittest.main()
