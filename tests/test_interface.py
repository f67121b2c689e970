"""The interface: what must exist, where it is defined, and how its parameters are called."""

import ast
import importlib
import inspect
import pathlib
import unittest

from mostcrowds import errors
from mostcrowds.claims import Claim
from mostcrowds.crowds import Crowd
from mostcrowds.desk import Desk
from mostcrowds.groups import Group
from mostcrowds.programs import Program
from mostcrowds.rows import If, Let, Say, While
from mostcrowds.runs import run
from mostcrowds.shares import greatest
from mostcrowds.tallies import Tally
from mostcrowds.ways import ways

PACKAGE = pathlib.Path(__file__).resolve().parent.parent / "mostcrowds"
ORDER = "__le__ __lt__ __ge__ __gt__ __eq__".split()

FUNCTIONS = {
    "kinds": ["kinds(names)"],
    "deciding": ["possible(claims)", "example(claims)", "fewest(claims)", "follows(claims, claim)", "open_kinds(claims)", "fullest(claims)"],
    "papers": ["paper(claims)", "paper_holds(claims, value)"],
    "shares": [
        "greatest(top, bottom, claims=())", "least(top, bottom, claims=())", "share_paper(top, bottom, claims, value)",
        "share_paper_holds(top, bottom, claims, value, shown)", "nearing(top, bottom, claims, value)",
    ],
    "cores": ["core(claims)", "cores(claims)", "needless(claims)", "thinned(claims)", "same_claims(claims, others)"],
    "bridges": ["bridge(claims, others)", "bridge_holds(claims, others, value)"],
    "runs": ["run(program, crowd)"],
    "ways": [
        "ways(program)", "way_of(program, crowd)", "may_end(program, claims=())", "may_stop(program, claims=())",
        "may_circle(program, claims=())", "measures(program)",
    ],
    "always": [
        "alike(p, q, *, given=())", "parting(p, q, *, given=())", "tree(p, q, *, given=())", "tree_holds(p, q, value, *, given=())",
        "sure(program, claim, *, given=())", "breach(program, claim, *, given=())", "settled(program, claim, *, given=())",
        "needed(program, name, *, given=())",
    ],
}
CLASSES = {
    ("groups", "Group"): [
        "named(name)", "every()", "nothing()", "at_least(number, groups)", "read(text)", "has(kind)", "put(groups)",
        "__and__", "__or__", "__sub__", "__xor__", "__invert__", "__bool__", "__str__", *ORDER,
    ],
    ("crowds", "Crowd"): [
        "__init__(parts=())", "count(group)", "only(group)", "read(text)", "__getitem__", "__len__", "__bool__", "__add__", "__mul__",
        "__rmul__", "__eq__", "__str__", "__iter__",
    ],
    ("tallies", "Tally"): [
        "__init__(terms=())", "weight(kind)", "on(crowd)", "of(group)", "read(text)", "__add__", "__sub__", "__neg__", "__mul__",
        "__rmul__", "__str__", *ORDER,
    ],
    ("claims", "Claim"): [
        "__init__(word, tally)", "holds(crowd)", "put(groups)", "contrary()", "share(group, other, over, under)",
        "more_in(group, other)", "inside(group, other)", "some(group)", "read(text)", "__eq__", "__str__",
    ],
    ("shares", "Bound"): ["__eq__", "__str__"],
    ("rows", "Row"): [],
    ("rows", "Let"): ["__init__(name, group)", "__eq__", "__str__"],
    ("rows", "If"): ["__init__(claim, rows, others=())", "__eq__", "__str__"],
    ("rows", "While"): ["__init__(claim, rows)", "__eq__", "__str__"],
    ("rows", "Say"): ["__init__(word)", "__eq__", "__str__"],
    ("rows", "Stop"): ["__init__()", "__eq__", "__str__"],
    ("programs", "Program"): [
        "__init__(rows=())", "without(at)", "replaced(at, row)", "read(text)", "__call__(crowd)", "__len__", "__getitem__", "__add__",
        "__mul__", "__rmul__", "__eq__", "__str__", "__iter__",
    ],
    ("runs", "Outcome"): ["__getitem__", "__eq__", "__iter__"],
    ("ways", "Way"): ["__getitem__", "__iter__"],
    ("halls", "Hall"): [
        "__init__(crowd=None)", "crowd", "gather(crowd)", "enter(kind, number=1)", "leave(kind, number=1)", "holds(claim)", "do(program)",
        "several(programs)", "undo()", "trial()", "within(work)", "__getitem__", "__len__", "__iter__",
    ],
    ("desk", "Desk"): ["__init__()", "say(command)", "__len__"],
}
ATTRIBUTES = [
    (Group.named("a"), ["names"]),
    (Crowd(), ["parts", "size"]),
    (Tally(), ["terms", "names"]),
    (Claim("even", Tally()), ["word", "tally", "names"]),
    (greatest(Tally(), Tally()), ["word", "value"]),
    (Let("a", Group.every()), ["name", "group"]),
    (If(Claim("even", Tally()), []), ["claim", "rows", "others"]),
    (While(Claim("even", Tally()), []), ["claim", "rows"]),
    (Say("w"), ["word"]),
    (Program(), ["rows", "names"]),
    (run(Program(), Crowd()), ["end", "words", "names", "after"]),
    (run(Program.read("while even 0\nend"), Crowd()), ["end", "words", "names", "after"]),
    (ways(Program())[0], ["signs", "end", "words", "claims"]),
    (Desk(), ["hall", "claims", "program"]),
]


def signature(told, skipped=()):
    found = inspect.signature(told)
    return f"{told.__name__}{found.replace(parameters=[one for one in found.parameters.values() if one.name not in skipped])}"


class Defined(unittest.TestCase):
    def body(self, module):
        return ast.parse((PACKAGE / f"{module}.py").read_text(encoding="utf-8")).body

    def test_functions(self):
        for module, told in FUNCTIONS.items():
            found = {node.name for node in self.body(module) if isinstance(node, ast.FunctionDef)}
            for text in told:
                name = text.split("(")[0]
                self.assertIn(name, found)
                self.assertEqual(signature(getattr(importlib.import_module(f"mostcrowds.{module}"), name)), text)

    def test_classes(self):
        for (module, name), methods in CLASSES.items():
            body = [node for node in self.body(module) if isinstance(node, ast.ClassDef) and node.name == name][0].body
            found = {node.name for node in body if isinstance(node, ast.FunctionDef)}
            made = getattr(importlib.import_module(f"mostcrowds.{module}"), name)
            for text in methods:
                self.assertIn(text.split("(")[0], found, name)
                if "(" in text:
                    self.assertEqual(signature(getattr(made, text.split("(")[0]), ("self", "cls")), text)

    def test_errors(self):
        found = {node.name for node in self.body("errors") if isinstance(node, ast.ClassDef)}
        for name in (
            "CrowdError InvalidName InvalidGroup InvalidTally InvalidClaim InvalidCrowd InvalidRow InvalidText InvalidCommand "
            "Endless Refused NoRow NoMember"
        ).split():
            self.assertIn(name, found)
            self.assertTrue(issubclass(getattr(errors, name), Exception))

    def test_attributes_are_set_on_each_object(self):
        for value, names in ATTRIBUTES:
            for name in names:
                self.assertIn(name, vars(value))


if __name__ == "__main__":
    unittest.main()
