"""[2]: each function, class and method of the interface, by position and by the names of the document, in any order.

Each call is made several times: what was passed stays as it was, and the answers are equal.
"""

import inspect
import itertools
import unittest

from mostcrowds import always, bridges, claims, cores, crowds, deciding, errors, groups, kinds, papers, programs, rows, runs, shares, tallies, ways
from mostcrowds.claims import Claim
from mostcrowds.crowds import Crowd
from mostcrowds.desk import Desk
from mostcrowds.errors import CrowdError
from mostcrowds.groups import Group
from mostcrowds.halls import Hall
from mostcrowds.programs import Program
from mostcrowds.rows import If, Let, Row, Say, Stop, While
from mostcrowds.runs import Outcome
from mostcrowds.shares import Bound
from mostcrowds.tallies import Tally
from mostcrowds.ways import Way

from tests.values import A, B, C

CROWD = Crowd.read("1, 3 a, 2 a b, 4 c")
GIVEN = [Claim.share(A, B, 2, 3), Claim.share(A, C, 1, 2)]
AGAINST = [*GIVEN, Claim.share(A, B & C, 1, 6).contrary()]
FIRST, SECOND = [Claim.share(A, B, 1, 1), Claim.more_in(A, C)], [Claim.inside(B, C)]
TALLY = Tally([(2, A), (-1, B)])
SOME = Claim.some(A)
P = Program.read("if more + a - b\nc = a\nelse\nc = b\nend\nsay u")
Q = Program.read("c = | a b\nif least + a - b\nc = a\nend\nsay u")
INSIDE = [Claim.inside(B, A)]
TREE = always.tree(P, Q, given=INSIDE)
PAPER = shares.share_paper(Tally.of(A & B), Tally.of(A), GIVEN, (1, 1))

# Each callable, with what it is passed, by the names of the document, in the order of the document.
CALLS = [
    (kinds.kinds, {"names": ["b", "a", "b"]}),
    (Group.named, {"name": "ab"}), (Group.every, {}), (Group.nothing, {}), (Group.at_least, {"number": 2, "groups": [A, B, C]}), (Group.read, {"text": "& a ~ b"}),
    ((A & B).has, {"kind": ["b", "a"]}), ((A - B).put, {"groups": {"a": C, "b": A}}),
    (Crowd, {"parts": [(["b", "a"], 2), ((), 1)]}), (Crowd.read, {"text": "2 a b, 1"}), (CROWD.count, {"group": A | B}), (CROWD.only, {"group": ~A}),
    (Tally, {"terms": [(2, A), (0, B)]}), (Tally.of, {"group": A}), (Tally.read, {"text": "+ 2 a - b"}), (TALLY.weight, {"kind": ["b", "a"]}), (TALLY.on, {"crowd": CROWD}),
    (Claim, {"word": "more", "tally": TALLY}), (Claim.share, {"group": A, "other": B, "over": 1, "under": 3}), (Claim.more_in, {"group": A, "other": B}),
    (Claim.inside, {"group": A, "other": B}), (Claim.some, {"group": A}), (Claim.read, {"text": "more + a"}), (SOME.holds, {"crowd": CROWD}), (SOME.put, {"groups": {"a": B}}), (SOME.contrary, {}),
    (deciding.possible, {"claims": GIVEN}), (deciding.example, {"claims": [SOME]}), (deciding.fewest, {"claims": [SOME, Claim.more_in(B, A)]}), (deciding.follows, {"claims": GIVEN, "claim": Claim.share(A, B & C, 1, 6)}),
    (deciding.open_kinds, {"claims": INSIDE}), (deciding.fullest, {"claims": INSIDE}), (papers.paper, {"claims": AGAINST}), (papers.paper_holds, {"claims": AGAINST, "value": (2, 3, 1)}),
    (shares.greatest, {"top": Tally.of(A & B), "bottom": Tally.of(A), "claims": GIVEN}), (shares.least, {"top": Tally.of(A & B), "bottom": Tally.of(A), "claims": GIVEN}),
    (shares.share_paper, {"top": Tally.of(A & B), "bottom": Tally.of(A), "claims": GIVEN, "value": (1, 1)}),
    (shares.share_paper_holds, {"top": Tally.of(A & B), "bottom": Tally.of(A), "claims": GIVEN, "value": (1, 1), "shown": PAPER}),
    (shares.nearing, {"top": Tally.of(A & B), "bottom": Tally.of(A), "claims": GIVEN, "value": (4, 5)}),
    (cores.core, {"claims": AGAINST}), (cores.cores, {"claims": AGAINST}), (cores.needless, {"claims": [*GIVEN, GIVEN[0]]}), (cores.thinned, {"claims": [*GIVEN, GIVEN[0]]}),
    (cores.same_claims, {"claims": GIVEN, "others": GIVEN[::-1]}), (bridges.bridge, {"claims": FIRST, "others": SECOND}), (bridges.bridge_holds, {"claims": FIRST, "others": SECOND, "value": Claim.some(B - C)}),
    (Let, {"name": "a", "group": B}), (If, {"claim": SOME, "rows": [Stop()], "others": [Say("w")]}), (While, {"claim": SOME, "rows": [Stop()]}), (Say, {"word": "w"}), (Stop, {}),
    (Program, {"rows": [Stop()]}), (Program.read, {"text": "say w"}), (P.without, {"at": 1}), (P.replaced, {"at": 1, "row": Stop()}), (P, {"crowd": CROWD}), (runs.run, {"program": P, "crowd": CROWD}),
    (ways.ways, {"program": P}), (ways.way_of, {"program": P, "crowd": CROWD}), (ways.may_end, {"program": P, "claims": GIVEN}), (ways.may_stop, {"program": P, "claims": GIVEN}),
    (ways.may_circle, {"program": P, "claims": GIVEN}), (ways.measures, {"program": P}),
    (always.alike, {"p": P, "q": Q, "given": INSIDE}), (always.parting, {"p": P, "q": Q, "given": [SOME]}), (always.tree, {"p": P, "q": Q, "given": INSIDE}),
    (always.tree_holds, {"p": P, "q": Q, "value": TREE, "given": INSIDE}), (always.sure, {"program": P, "claim": SOME, "given": GIVEN}), (always.breach, {"program": P, "claim": SOME, "given": GIVEN}),
    (always.settled, {"program": P, "claim": SOME, "given": GIVEN}), (always.needed, {"program": P, "name": "c", "given": GIVEN}),
    (Hall, {"crowd": CROWD}), (Hall(CROWD).holds, {"claim": SOME}), (Hall(CROWD).within, {"work": len}), (Hall().undo, {}), (Desk, {}), (Desk().say, {"command": "count a"}),
]
# These change their object, so each call has a new one.
CHANGING = [
    ("gather", {"crowd": CROWD}), ("enter", {"kind": ["b", "a"], "number": 2}), ("leave", {"kind": ["b", "a"], "number": 2}), ("do", {"program": P}), ("several", {"programs": [P, Q]}), ("undo", {}), ("trial", {}),
    ("within", {"work": lambda hall: hall.enter(["d"])}),
]
ERRORS = {
    "CrowdError": [], "InvalidName": ["name"], "InvalidGroup": ["word"], "InvalidTally": ["word"], "InvalidClaim": ["word"], "InvalidCrowd": ["at"], "InvalidRow": ["word"],
    "InvalidText": ["at"], "InvalidCommand": [], "Endless": [], "Refused": ["at"], "NoRow": ["at"], "NoMember": ["kind"],
}


def told(value):
    """What can be compared of any value."""
    if isinstance(value, (list, tuple)):
        return type(value).__name__, [told(one) for one in value]
    if isinstance(value, dict):
        return [(name, told(one)) for name, one in value.items()]
    if isinstance(value, Outcome):
        return value.end, value.words, value.names, [str(value[name]) for name in "abcz"], str(value.after)
    if isinstance(value, Way):
        return told(value.signs), value.end, value.words, told(value.claims), [str(value[name]) for name in "abcz"]
    if isinstance(value, Hall):
        return str(value.crowd), len(value)
    if isinstance(value, Desk):
        return told(value.hall), told(value.claims), str(value.program)
    if isinstance(value, (Group, Crowd, Tally, Claim, Bound, Row, Program)):
        return type(value).__name__, str(value)
    return value if isinstance(value, (int, str, type(None))) else type(value).__name__


def only_by_name(call):
    return {one.name for one in inspect.signature(call).parameters.values() if one.kind is one.KEYWORD_ONLY}


def forms(call, passed):
    """All forms of a call: so many arguments by position, the others by name, in any order."""
    named = only_by_name(call)
    free = [name for name in passed if name not in named]
    for many in range(len(free) + 1):
        for order in itertools.permutations(free[many:] + [name for name in passed if name in named]):
            yield [passed[name] for name in free[:many]], {name: passed[name] for name in order}


class Calls(unittest.TestCase):
    def test_each_form_of_each_call(self):
        for call, passed in CALLS:
            before = told(passed)
            answers = [call(*values, **others) for values, others in [*forms(call, passed), *forms(call, passed)]]
            for answer in answers:
                self.assertEqual(told(answer), told(answers[0]), call)
            self.assertEqual(told(passed), before, call)

    def test_by_position_alone_where_it_may_be(self):
        for call, passed in CALLS:
            if only_by_name(call):
                with self.assertRaises(TypeError):
                    call(*passed.values())

    def test_lists_and_tuples_are_taken_alike(self):
        for call, passed in CALLS:
            if any(isinstance(value, list) for value in passed.values()):
                other = {name: tuple(value) if isinstance(value, list) else value for name, value in passed.items()}
                self.assertEqual(told(call(**other)), told(call(**passed)), call)

    def test_methods_that_change_their_object(self):
        for name, passed in CHANGING:
            answers = []
            for values, others in forms(getattr(Hall(), name), passed):
                hall = Hall(CROWD)
                hall.enter(["c"])
                answers.append((told(getattr(hall, name)(*values, **others)), told(hall)))
            self.assertEqual(answers, answers[:1] * len(answers))

    def test_default_values(self):
        hall = Hall()
        hall.enter(["a"])
        hall.enter(kind=["a"])
        hall.leave(["a"])
        self.assertEqual(str(hall.crowd), "1 a")
        self.assertEqual((Crowd(), Tally(), str(Program()), str(If(SOME, [])), str(Hall().crowd)), (Crowd(()), Tally(()), "", "if more + a\nend", "nobody"))
        self.assertEqual(str(shares.greatest(Tally.of(A), Tally.of(A))), str(shares.greatest(Tally.of(A), Tally.of(A), ())))
        self.assertEqual(always.alike(P, Q), always.alike(P, Q, given=()))
        self.assertEqual((ways.may_end(P), ways.may_end(P, ())), (True, True))

    def test_errors(self):
        for name, names in ERRORS.items():
            made = getattr(errors, name)
            values = [f"value {number}" for number in range(len(names))]
            for error in (made(*values), made(**dict(zip(names, values)))):
                self.assertEqual([getattr(error, one) for one in names], values)

    def test_every_public_name_is_called_here(self):
        for module in (kinds, groups, crowds, tallies, claims, deciding, papers, shares, cores, bridges, rows, programs, runs, ways, always):
            called = {call.__qualname__.split(".")[0] if hasattr(call, "__qualname__") else type(call).__name__ for call, _ in CALLS}
            for name in INTERFACE[module.__name__.split(".")[1]]:
                self.assertIn(name, called | {"Bound", "Row", "Outcome", "Way"})


INTERFACE = {
    "kinds": ["kinds"], "groups": ["Group"], "crowds": ["Crowd"], "tallies": ["Tally"], "claims": ["Claim"], "deciding": "possible example fewest follows open_kinds fullest".split(), "papers": ["paper", "paper_holds"],
    "shares": "greatest least Bound share_paper share_paper_holds nearing".split(), "cores": "core cores needless thinned same_claims".split(), "bridges": ["bridge", "bridge_holds"],
    "rows": "Row Let If While Say Stop".split(), "programs": ["Program"], "runs": ["run", "Outcome"], "ways": "ways Way way_of may_end may_stop may_circle measures".split(),
    "always": "alike parting tree tree_holds sure breach settled needed".split(),
}


class NotIterable(unittest.TestCase):
    def test_objects_of_the_package(self):
        hall = Hall(CROWD)
        objects = [
            A, A & B, CROWD, Crowd(), TALLY, Tally(), SOME, shares.greatest(TALLY, TALLY), Let("a", B), If(SOME, [Stop()]), While(SOME, [Stop()]), Say("w"), Stop(), P, Program(), P(CROWD),
            *ways.ways(P), hall, hall.trial(), Desk(), CrowdError(), errors.NoRow(1), errors.InvalidName("a"),
        ]
        for value in objects:
            for use in (iter, list, tuple, lambda value: [*value], lambda value: 1 in value, lambda value: max(value)):
                with self.assertRaises(TypeError):
                    use(value)


if __name__ == "__main__":
    unittest.main()
