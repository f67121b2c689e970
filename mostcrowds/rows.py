"""Rows: what a program does, one after another."""

from mostcrowds.checks import is_name, is_sequence
from mostcrowds.claims import Claim
from mostcrowds.errors import InvalidRow
from mostcrowds.groups import Group
from mostcrowds.kinds import names_of


class Row:
    """What all rows have in common; the document asks for `==` and `str` in each class of rows itself."""

    def lines(self):
        """The lines of the text."""
        return []

    def __eq__(self, other):
        return isinstance(other, Row) and str(self) == str(other)

    def __str__(self):
        return "\n".join(self.lines())


class Let(Row):
    """A name is given a group."""

    def __init__(self, name, group):
        if not is_name(name):
            raise InvalidRow("name")
        if not isinstance(group, Group):
            raise InvalidRow("group")
        self.name = name
        self.group = group
        self.names = tuple(sorted(set([name, *group.names])))

    def lines(self):
        """The line of the text."""
        return [f"{self.name} = {self.group}"]

    def __eq__(self, other):
        return isinstance(other, Let) and str(self) == str(other)

    def __str__(self):
        return "\n".join(self.lines())


class If(Row):
    """Some rows are done if a claim holds, others if it does not."""

    def __init__(self, claim, rows, others=()):
        if not isinstance(claim, Claim):
            raise InvalidRow("claim")
        if not are_rows(rows) or not are_rows(others):
            raise InvalidRow("rows")
        self.claim = claim
        self.rows = tuple(rows)
        self.others = tuple(others)
        self.names = tuple(names_of([claim, *rows, *others]))

    def lines(self):
        """The lines of the text."""
        otherwise = ["else", *lines_of(self.others)] if self.others else []
        return [f"if {self.claim}", *lines_of(self.rows), *otherwise, "end"]

    def __eq__(self, other):
        return isinstance(other, If) and str(self) == str(other)

    def __str__(self):
        return "\n".join(self.lines())


class While(Row):
    """Some rows are done as long as a claim holds."""

    def __init__(self, claim, rows):
        if not isinstance(claim, Claim):
            raise InvalidRow("claim")
        if not are_rows(rows):
            raise InvalidRow("rows")
        self.claim = claim
        self.rows = tuple(rows)
        self.names = tuple(names_of([claim, *rows]))

    def lines(self):
        """The lines of the text."""
        return [f"while {self.claim}", *lines_of(self.rows), "end"]

    def __eq__(self, other):
        return isinstance(other, While) and str(self) == str(other)

    def __str__(self):
        return "\n".join(self.lines())


class Say(Row):
    """A word is said."""

    def __init__(self, word):
        if not is_name(word):
            raise InvalidRow("word")
        self.word = word
        self.names = ()

    def lines(self):
        """The line of the text."""
        return [f"say {self.word}"]

    def __eq__(self, other):
        return isinstance(other, Say) and str(self) == str(other)

    def __str__(self):
        return "\n".join(self.lines())


class Stop(Row):
    """The run ends."""

    def __init__(self):
        self.names = ()

    def lines(self):
        """The line of the text."""
        return ["stop"]

    def __eq__(self, other):
        return isinstance(other, Stop) and str(self) == str(other)

    def __str__(self):
        return "\n".join(self.lines())


def are_rows(value):
    """Whether a value is a sequence of rows."""
    return is_sequence(value) and all([isinstance(row, Row) for row in value])


def lines_of(rows):
    """The lines of the texts of rows."""
    return [line for row in rows for line in row.lines()]


def inside(row):
    """The rows that stand directly in a row."""
    if isinstance(row, If):
        return row.rows + row.others
    if isinstance(row, While):
        return row.rows
    return ()


def in_order(rows):
    """The rows and all rows in them, in the order of their lines."""
    listed = []
    for row in rows:
        listed.append(row)
        listed.extend(in_order(inside(row)))
    return listed


def edited(rows, at, fresh):
    """The rows with fresh ones in the place of the row with a number; the same rows if no row has the number."""
    made = []
    left = at
    for row in rows:
        many = 1 + len(in_order(inside(row)))
        if left == 0:
            made.extend(fresh)
        elif 0 < left < many:
            made.append(edited_inside(row, left - 1, fresh))
        else:
            made.append(row)
        left = left - many
    return made


def edited_inside(row, at, fresh):
    """The row with fresh ones in the place of the row in it with a number."""
    rows = edited(row.rows, at, fresh)
    if isinstance(row, While):
        return While(row.claim, rows)
    return If(row.claim, rows, edited(row.others, at - len(in_order(row.rows)), fresh))
