"""[35]: trees, and what is none."""

import itertools
import random
import unittest

from mostcrowds.always import alike, tree, tree_holds
from mostcrowds.claims import Claim
from mostcrowds.papers import paper
from mostcrowds.programs import Program

from tests.pairs import Pair, looks_alike, made_pairs, some_hold_together
from tests.programs import plain_rows, program_of, weighted_claim
from tests.values import ClaimText, any_values, hold_together, is_right_paper

PAIRS = made_pairs(480, 80) + made_pairs(481, 60, "ab", "abc")

WRITTEN = [
    ("", "", []), ("stop", "stop\nsay u", []), ("a = b", "a = b\nb = b", []), ("if more + a - b\nc = a\nelse\nc = b\nend", "c = | a b\nif least + a - b\nc = a\nend", ["even + - b a"]),
    ("while more + a\na = & a b\nend", "while more + a\nif more + a\na = & a b\nend\nend", []), ("while least 0\nend", "while least 0\na = b\nend", []), ("while more + a\nend", "if more + a\nwhile least 0\nend\nend", []),
    ("if more + a\nsay u\nend", "if more + b\nsay u\nend", ["even + a - b"]), ("say u", "say v", ["more 0"]), ("a = b", "a = c", ["even + b", "even + c"]), ("a = b", "a = c", ["even + ^ b c"]),
    ("if more + a - b\nif more + b - c\nif more + c - a\nsay u\nend\nend\nend", "", []), ("if more + a - b\nstop\nend\nif more + a - c\nstop\nend", "if more + a - c\nstop\nend\nif more + a - b\nstop\nend", []),
    ("a = none\nb = none", "b = none\na = b", ["least + a - c"]), ("if more + a - b\nsay u\nend", "if more + 2 a - 2 b\nsay u\nend", []), ("a = b", "a = c", ["more + a", "even + a"]),
]
WRITTEN_PAIRS = [
    Pair(*[plain_rows(Program.read(text).rows) for text in texts], [ClaimText(text) for text in given]) for *texts, given in WRITTEN
]


class PairWithRows(Pair):
    """A pair whose claims are told by their weights for all kinds."""

    def __init__(self, pair):
        super().__init__(pair.rows, pair.others, pair.given)
        self.told_given = self.told(self.given)
        self.told_ways = [self.told(way.claims()) for way in self.ways]
        self.told_others = [self.told(way.claims()) for way in self.other_ways]

    def told(self, recipes):
        return [(recipe.word, [recipe.weight(kind) for kind in self.kinds]) for recipe in recipes]

    def is_right(self, told, value):
        return is_right_paper([word for word, _ in told], [row for _, row in told], value)

    def is_right_tree(self, value):
        """What the document says of a right tree."""
        if type(value) is not tuple or len(value) != len(self.ways):
            return False
        return all(self.is_right_branch(at, item) for at, item in enumerate(value))

    def is_right_branch(self, at, item):
        if type(item) is not tuple:
            return False
        if len(item) == 2 and type(item[0]) is str and item[0] == "bar":
            return self.is_right(self.told_given + self.told_ways[at], item[1])
        return len(item) == len(self.other_ways) and all(self.is_right_leaf(at, other, leaf) for other, leaf in enumerate(item))

    def is_right_leaf(self, at, other_at, leaf):
        if type(leaf) is not tuple or len(leaf) != 2 or type(leaf[0]) is not str:
            return False
        told = self.told_given + self.told_ways[at] + self.told_others[other_at]
        if leaf[0] == "bar":
            return self.is_right(told, leaf[1])
        way, other = self.ways[at], self.other_ways[other_at]
        if leaf[0] != "same" or not looks_alike(way, other) or type(leaf[1]) is not tuple:
            return False
        kinds = self.differing(way, other)
        return len(leaf[1]) == len(kinds) and all(
            self.is_right([*told, ("more", [int(kind == one) for one in self.kinds])], paper) for kind, paper in zip(kinds, leaf[1])
        )

    def other_tree(self):
        """A right tree with as few bars as possible."""
        made = []
        for at, way in enumerate(self.ways):
            leaves = []
            for other_at, other in enumerate(self.other_ways):
                told = self.told_given + self.told_ways[at] + self.told_others[other_at]
                if looks_alike(way, other):
                    papers = [self.paper([*told, ("more", [int(kind == one) for one in self.kinds])]) for kind in self.differing(way, other)]
                    leaves.append(("same", tuple(papers)))
                else:
                    leaves.append(("bar", self.paper(told)))
            made.append(tuple(leaves))
        return tuple(made)

    def paper(self, told):
        return paper([weighted_claim(word, self.kinds, self.names, row).claim() for word, row in told])


def spoilt(value, source):
    """Values that are a tree but for one place."""
    yield from [list(value), value[:-1], (*value, value[0]), (value,), value[::-1], ()]
    for at, item in enumerate(value):
        for other in spoilt_branch(item, source):
            yield (*value[:at], other, *value[at + 1:])


def spoilt_branch(item, source):
    yield from [list(item), item[:-1], (*item, item[-1]), ("same", ()), ("bar", ()), ("bar",), None, (), "bar", item[::-1]]
    if item[:1] == ("bar",):
        yield from [("bar", paper) for paper in spoilt_paper(item[1], source)]
        yield from [("same", item[1]), ("Bar", item[1]), (item[1], "bar"), ("bar", item[1], item[1]), (["bar"], item[1])]
        return
    for at, leaf in enumerate(item):
        for other in spoilt_leaf(leaf, source):
            yield (*item[:at], other, *item[at + 1:])


def spoilt_leaf(leaf, source):
    word, shown = leaf
    yield from [list(leaf), (word,), (shown,), leaf[::-1], (word, list(shown)), ("even", shown), ("same", ()), ("bar", ()), (None, shown), (word, None), (*leaf, ())]
    yield from [("same" if word == "bar" else "bar", shown), ((word,), shown)]
    if word == "bar":
        yield from [("bar", paper) for paper in spoilt_paper(shown, source)]
        return
    yield from [("same", shown[:-1]), ("same", (*shown, *shown[:1])), ("same", (*shown, (1,))), ("same", shown[::-1])]
    for at, paper in enumerate(shown):
        yield ("same", (*shown[:at], *shown[at + 1:]))
        for other in spoilt_paper(paper, source):
            yield ("same", (*shown[:at], other, *shown[at + 1:]))


def spoilt_paper(paper, source):
    yield from [list(paper), paper[:-1], (*paper, 0), (*paper, 1), (0,) * len(paper), tuple(2 * x for x in paper), tuple(-x for x in paper), paper[::-1], None, 1]
    if paper:
        at = source.randrange(len(paper))
        for number in (paper[at] + 1, paper[at] - 1, -1, True, None, "1", (1,), 10 ** 30):
            yield (*paper[:at], number, *paper[at + 1:])


class Trees(unittest.TestCase):
    def test_each_tree_told_is_right(self):
        many = {True: 0, False: 0}
        words = set()
        for pair in PAIRS + WRITTEN_PAIRS:
            p, q, given = program_of(pair.rows), program_of(pair.others), pair.claims()
            told = tree(p, q, given=given)
            is_alike = not some_hold_together(list(pair.cases()))
            self.assertEqual(told is not None, is_alike)
            self.assertIs(alike(p, q, given=given), is_alike)
            many[is_alike] += 1
            if told is not None:
                self.assertTrue(PairWithRows(pair).is_right_tree(told), (str(p), str(q), told))
                self.assertIs(tree_holds(p, q, told, given=given), True)
                self.assertIs(tree_holds(p, q, told, given=tuple(given)), True)
                for item in told:
                    words.add(item[0] if item[0] == "bar" else "tuple")
                    words |= {(leaf[0], leaf[1] == ()) for leaf in item if item[0] != "bar"}
        self.assertGreater(min(many.values()), 15)
        self.assertLessEqual({"bar", "tuple", ("bar", False), ("same", True), ("same", False)}, words)

    def test_other_right_trees(self):
        for pair in PAIRS[::3] + WRITTEN_PAIRS:
            p, q, given = program_of(pair.rows), program_of(pair.others), pair.claims()
            if not alike(p, q, given=given):
                continue
            whole = PairWithRows(pair)
            other = whole.other_tree()
            self.assertTrue(whole.is_right_tree(other))
            self.assertIs(tree_holds(p, q, other, given=given), True)

    def test_spoilt_ones(self):
        source = random.Random(482)
        many = {True: 0, False: 0}
        for pair in PAIRS[::2] + WRITTEN_PAIRS:
            p, q, given = program_of(pair.rows), program_of(pair.others), pair.claims()
            told = tree(p, q, given=given)
            if told is None or len(pair.ways) * len(pair.other_ways) > 20:
                continue
            whole = PairWithRows(pair)
            for value in spoilt(told, source):
                is_right = whole.is_right_tree(value)
                many[is_right] += 1
                if many[is_right] <= 2500:
                    self.assertIs(tree_holds(p, q, value, given=given), is_right, (str(p), str(q), value))
        self.assertGreater(many[True], 50)
        self.assertGreater(many[False], 1500)

    def test_values_of_all_sorts(self):
        for pair in [PAIRS[0], PAIRS[1], *WRITTEN_PAIRS]:
            p, q, given = program_of(pair.rows), program_of(pair.others), pair.claims()
            whole = PairWithRows(pair)
            for value in any_values():
                for told in (value, (value,), ((value,),), (((value, ()),),), ((("same", value),),), ((("bar", value),),), (("bar", value),), (("bar", (value,)),), ((("same", (value,)),),)):
                    self.assertIs(tree_holds(p, q, told, given=given), whole.is_right_tree(told), told)

    def test_programs_that_are_not_alike_have_none(self):
        for pair in PAIRS + WRITTEN_PAIRS:
            if some_hold_together(list(pair.cases())):
                p, q = program_of(pair.rows), program_of(pair.others)
                self.assertIsNone(tree(p, q, given=pair.claims()))
                same = tuple(tuple(("same", ()) for _ in pair.other_ways) for _ in pair.ways)
                self.assertIs(tree_holds(p, q, same, given=pair.claims()), False)

    def test_told_ones(self):
        p, q = Program.read("a = b"), Program.read("a = c")
        given = [Claim.read("even + b"), Claim.read("even + c")]
        # The kinds b and c, without and with a, are held by a on one side only.
        for papers, is_right in [
            (((-1, 0, 1), (-1, 0, 1), (0, -1, 1), (0, -1, 1)), True), (((-1, -1, 1),) * 4, True), (((-5, -2, 1),) * 4, True), (((-1, 0, 1),) * 4, False),
            (((-1, 0, 1), (0, -1, 1)), False), ((), False), (((-1, -1, 1),) * 5, False), (((-1, -1, 1),) * 3 + ((-1, -1, 0),), False), (((-1, -1),) * 4, False),
            ([(-1, -1, 1)] * 4, False), (((-1, -1, 1),) * 3 + ([-1, -1, 1],), False), (((-1, -1, True),) * 4, False),
        ]:
            self.assertIs(tree_holds(p, q, ((("same", papers),),), given=given), is_right, papers)
            self.assertIs(tree_holds(p, q, ((("same", papers),),)), False)
        self.assertIsNone(tree(p, q))
        self.assertEqual(tree(p, p), ((("same", ()),),))
        never = Program.read("while least 0\na = none\nend")
        self.assertEqual(tree(never, Program.read("while least 0\nsay u\nend")), ((("same", ()),),))
        self.assertIsNone(tree(never, Program()))
        self.assertEqual(tree(never, Program(), given=[Claim.read("more 0")]), (("bar", (1,)),))
        for value in [(("bar", (1,)),), ((("bar", (1,)),),), (("bar", (7,)),)]:
            self.assertIs(tree_holds(never, Program(), value, given=[Claim.read("more 0")]), True)

    def test_two_ways_of_the_other_program(self):
        # A tuple of two items is no bar, and a bar is no tuple of two items.
        p, q = Program.read("say u\nif more + a\nend"), Program.read("say u\nif even + a\nend")
        told = tree(p, q)
        self.assertEqual([len(item) for item in told], [2, 2])
        self.assertIs(tree_holds(p, q, told), True)
        for item in itertools.product(("bar", "same", ()), repeat=2):
            self.assertIs(tree_holds(p, q, (item, told[1])), False)

    def test_by_the_names_of_the_parameters(self):
        p = Program.read("a = b")
        told = tree(given=[], q=p, p=p)
        self.assertIs(tree_holds(given=[], value=told, q=p, p=p), True)
        for call in (lambda: tree(p, p, []), lambda: tree_holds(p, p, told, [])):
            with self.assertRaises(TypeError):
                call()

    def test_the_same_call_gives_the_same_answer(self):
        for pair in PAIRS[::8]:
            p, q, given = program_of(pair.rows), program_of(pair.others), pair.claims()
            self.assertEqual(tree(p, q, given=given), tree(p, q, given=given))
            self.assertEqual(hold_together(pair.given), hold_together(pair.given))


if __name__ == "__main__":
    unittest.main()
