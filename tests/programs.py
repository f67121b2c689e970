"""Programs told as plain lists, and what the document says of their runs, worked out in the plainest way.

A row is a tuple: ("let", name, recipe), ("if", claim, rows, others), ("while", claim, rows), ("say", word) or ("stop",);
recipes are those of tests.recipes, claims are `ClaimRecipe`s.
"""

import itertools
import random

from mostcrowds.crowds import Crowd
from mostcrowds.programs import Program
from mostcrowds.rows import If, Let, Say, Stop, While

from tests.recipes import group_of, has, made_recipe, names_of, read, text_of
from tests.values import ClaimGiven, ClaimRecipe, is_so, made_claim

SIGNS = (1, 0, -1)


class Ended(Exception):
    """The run has come to an end in the midst of its rows."""


class Asking(Exception):
    """A sign is asked that was not told."""


def rows_of(rows):
    return [row_of(row) for row in rows]


def row_of(row):
    if row[0] == "let":
        return Let(row[1], group_of(row[2]))
    if row[0] == "if":
        return If(row[1].claim(), rows_of(row[2]), rows_of(row[3]))
    if row[0] == "while":
        return While(row[1].claim(), rows_of(row[2]))
    return Say(row[1]) if row[0] == "say" else Stop()


def program_of(rows):
    return Program(rows_of(rows))


def lines_of(rows):
    lines = []
    for row in rows:
        if row[0] == "let":
            lines.append(f"{row[1]} = {text_of(row[2])}")
        elif row[0] in ("if", "while"):
            lines.append(f"{row[0]} {row[1].text()}")
            lines.extend(lines_of(row[2]))
            if row[0] == "if" and row[3]:
                lines.extend(["else", *lines_of(row[3])])
            lines.append("end")
        else:
            lines.append(" ".join(row))
    return lines


def program_text(rows):
    return "\n".join(lines_of(rows))


def names_in(rows):
    found = set()
    for row in rows:
        if row[0] == "let":
            found |= {row[1]} | names_of(row[2])
        elif row[0] in ("if", "while"):
            found |= row[1].names() | names_in(row[2]) | names_in(row[3] if row[0] == "if" else [])
    return found


def each_row(rows):
    """All rows in the order of their lines."""
    for row in rows:
        yield row
        if row[0] in ("if", "while"):
            yield from each_row(row[2])
        if row[0] == "if":
            yield from each_row(row[3])


class Machine:
    """Runs rows on members, each of whom is told by the set of the names that hold it; `decide` answers claims."""

    def __init__(self, members, names, decide):
        self.members = [set(member) for member in members]
        self.names = sorted(names)
        self.decide = decide
        self.stands = set()
        self.words = []
        self.end = None

    def run(self, rows):
        try:
            self.work(rows, ())
            self.end = "ends"
        except Ended:
            if self.end == "never":
                self.words = []
        return self

    def stand(self, place):
        stand = place, tuple(tuple(name in member for name in self.names) for member in self.members)
        if stand in self.stands:
            self.end = "never"
            raise Ended
        self.stands.add(stand)

    def work(self, rows, place):
        for at, row in enumerate(rows):
            self.work_row(row, (*place, at))

    def work_row(self, row, place):
        self.stand(place)
        if row[0] == "let":
            into = [has(row[2], member) for member in self.members]
            for member, is_in in zip(self.members, into):
                member.discard(row[1])
                member.update([row[1]] if is_in else [])
        elif row[0] == "if":
            if self.decide(row[1], self.members):
                self.work(row[2], (*place, "then"))
            else:
                self.work(row[3], (*place, "else"))
        elif row[0] == "while":
            while self.decide(row[1], self.members):
                self.work(row[2], (*place, "loop"))
                self.stand(place)
        elif row[0] == "say":
            self.words.append(row[1])
        else:
            self.end = "stops"
            raise Ended


def ran(rows, parts):
    """The machine after a run on a crowd with these parts (pairs of kinds and numbers)."""
    numbers = [number for _, number in parts]

    def decide(claim, members):
        return is_so(claim.word, sum(plain_weight(claim, member) * many for member, many in zip(members, numbers)))

    return Machine([kind for kind, _ in parts], names_in(rows), decide).run(rows)


def plain_weight(claim, member):
    return sum(number for number, recipe in claim.terms if has(recipe, member))


def held_after(machine, parts, name, names):
    """The crowd that a name holds after a run on these parts."""
    if machine.end == "never":
        return Crowd()
    if name not in names:
        return Crowd([(kind, many) for kind, many in parts if name in kind])
    return Crowd([(kind, many) for (kind, many), member in zip(parts, machine.members) if name in member])


class PlainWay:
    """A way through rows: what was asked, with its signs, and the machine at the end."""

    def __init__(self, names, asked, machine):
        self.names = names
        self.asked = asked
        self.machine = machine
        self.end = machine.end
        self.words = machine.words
        self.rows_done = len(machine.stands)

    def claims(self):
        kinds = kinds_in_order(self.names)
        words = {1: ("more", 1), 0: ("even", 1), -1: ("more", -1)}
        return [weighted_claim(words[sign][0], kinds, self.names, [words[sign][1] * x for x in row]) for row, sign in self.asked]

    def holds(self, name, kind):
        """Whether a name holds the members of a kind of the beginning in the end."""
        if self.end == "never":
            return False
        if name not in self.names:
            return name in kind
        at = kinds_in_order(self.names).index(tuple(other for other in self.names if other in kind))
        return name in self.machine.members[at]


def weighted_claim(word, kinds, names, row):
    """A claim told by its weights for kinds, in which only these names are looked at."""
    return ClaimRecipe(word, [(weight, kind_recipe(kind, names)) for kind, weight in zip(kinds, row) if weight])


def kind_recipe(kind, names):
    recipe = ("all",)
    for name in names:
        recipe = ("&", recipe, name if name in kind else ("~", name))
    return recipe


def plain_ways(rows):
    """All ways, in order: each is gone anew from the beginning, with one sign more each time."""
    names = sorted(names_in(rows))
    kinds = [set(kind) for kind in kinds_in_order(names)]
    return list(gone(rows, kinds, names, []))


def kinds_in_order(names):
    return [
        tuple(name for name, digit in zip(names, digits[::-1]) if digit)
        for digits in itertools.product((0, 1), repeat=len(names))
    ]


def gone(rows, kinds, names, told):
    asked = []

    def decide(claim, members):
        row = [plain_weight(claim, member) for member in members]
        return is_so(claim.word, sign_of(row))

    def sign_of(row):
        if not any(row):
            return 0
        for other, sign in asked:
            factor = proportion(row, other)
            if factor != 0:
                return sign * factor
        if len(asked) == len(told):
            asked.append((row, None))
            raise Asking
        asked.append((row, told[len(asked)]))
        return asked[-1][1]

    machine = Machine(kinds, names, decide)
    try:
        machine.run(rows)
        yield PlainWay(names, asked, machine)
    except Asking:
        for sign in SIGNS:
            if sign == 0 or any(weight * sign > 0 for weight in asked[-1][0]):
                yield from gone(rows, kinds, names, [*told, sign])


def proportion(row, other):
    """1 or -1 if one is a positive or negative multiple of the other one by a fraction, else 0."""
    at = [at for at, weight in enumerate(row) if weight][0]
    if other[at] == 0 or any(x * other[at] != y * row[at] for x, y in zip(row, other)):
        return 0
    return 1 if row[at] * other[at] > 0 else -1


def made_rows(source, names, many, nest, numbers=3, words="uv"):
    """At most so many rows, nested at most so deep."""
    rows = []
    left = source.randint(1, many)
    while left > 0:
        kind = source.random()
        inner = source.randrange(left) if nest else 0
        if kind < 0.35:
            rows.append(("let", source.choice(names), made_recipe(source, source.randrange(3), names)))
        elif kind < 0.5:
            rows.append(("say", source.choice(words)))
        elif kind < 0.55:
            rows.append(("stop",))
        elif not nest:
            continue
        elif kind < 0.8:
            cut = source.randint(0, inner)
            parts = [made_rows(source, names, part, nest - 1, numbers) if part else [] for part in (cut, inner - cut)]
            rows.append(("if", made_test(source, names, numbers), *parts))
        else:
            part = made_rows(source, names, inner, nest - 1, numbers) if inner else []
            rows.append(("while", made_test(source, names, numbers), part))
        left = left - len(list(each_row(rows[-1:])))
    return rows


def made_test(source, names, numbers):
    """A claim; mostly one that compares two groups."""
    if source.random() < 0.4:
        return made_claim(source, names, numbers, ("least", "more", "even"))
    terms = [(source.choice([1, 1, 2]), made_recipe(source, 1, names)), (source.choice([-1, -1, -2]), made_recipe(source, 1, names))]
    return ClaimRecipe(source.choice(["least", "more", "even"]), terms)


def made_programs(seed, many, names="abc", rows=8, nest=3, numbers=3):
    """So many programs, the same ones in each run."""
    source = random.Random(seed)
    return [made_rows(source, names, rows, nest, numbers) for _ in range(many)]


def made_parts(source, names, most=4):
    """The parts of a crowd, ascending."""
    kinds = sorted(kinds_in_order(sorted(names)))
    chosen = sorted(source.sample(range(len(kinds)), source.randint(0, min(most, len(kinds)))))
    return [(kinds[at], source.choice([1, 1, 2, 3, 5, 10 ** 20])) for at in chosen]


def plain_rows(rows):
    """The rows of a program, told as plain lists."""
    told = []
    for row in rows:
        if isinstance(row, Let):
            told.append(("let", row.name, read(str(row.group))))
        elif isinstance(row, If):
            told.append(("if", ClaimGiven(row.claim), plain_rows(row.rows), plain_rows(row.others)))
        elif isinstance(row, While):
            told.append(("while", ClaimGiven(row.claim), plain_rows(row.rows)))
        else:
            told.append(("say", row.word) if isinstance(row, Say) else ("stop",))
    return told
