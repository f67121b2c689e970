"""Programs: rows that change which members are in which groups."""

from mostcrowds.checks import is_count
from mostcrowds.errors import InvalidRow, NoRow
from mostcrowds.kinds import names_of
from mostcrowds.lines import read_rows
from mostcrowds.rows import Row, are_rows, edited, in_order, lines_of
from mostcrowds.runs import run


class Program:
    """Rows that are done in order."""

    def __init__(self, rows=()):
        if not are_rows(rows):
            raise InvalidRow("rows")
        self.rows = tuple(rows)
        self.names = tuple(names_of(self.rows))

    @classmethod
    def read(cls, text):
        """The program with a text."""
        return cls(read_rows(text))

    def without(self, at):
        """The program without the row with a number and all rows in it."""
        if not 0 <= at < len(in_order(self.rows)):
            raise NoRow(at)
        return Program(edited(self.rows, at, []))

    def replaced(self, at, row):
        """The program with another row in the place of the row with a number and all rows in it."""
        if not 0 <= at < len(in_order(self.rows)):
            raise NoRow(at)
        if not isinstance(row, Row):
            raise InvalidRow("rows")
        return Program(edited(self.rows, at, [row]))

    def __call__(self, crowd):
        return run(self, crowd)

    def __len__(self):
        return len(in_order(self.rows))

    def __getitem__(self, at):
        listed = in_order(self.rows)
        if not 0 <= at < len(listed):
            raise NoRow(at)
        return listed[at]

    # Without this, Python would go through a program by asking for the items 0, 1 and so on.
    def __iter__(self):
        raise TypeError("a program cannot be iterated over")

    def __add__(self, other):
        if not isinstance(other, Program):
            return NotImplemented
        return Program(self.rows + other.rows)

    def __mul__(self, other):
        if not is_count(other):
            return NotImplemented
        return Program(self.rows * other)

    def __rmul__(self, other):
        if not is_count(other):
            return NotImplemented
        return Program(self.rows * other)

    def __eq__(self, other):
        return isinstance(other, Program) and str(self) == str(other)

    def __str__(self):
        return "\n".join(lines_of(self.rows))
