"""The errors of the package.

Each keeps what it is made with, as it is; so its message is made of these values alone.
"""


class CrowdError(ValueError):
    """What all errors about values that are passed have in common."""


class InvalidName(CrowdError):
    """A value is no name."""

    def __init__(self, name):
        self.name = name


class InvalidGroup(CrowdError):
    """A group cannot be made; the word tells which argument is wrong."""

    def __init__(self, word):
        self.word = word


class InvalidTally(CrowdError):
    """A tally cannot be made; the word tells which argument is wrong."""

    def __init__(self, word):
        self.word = word


class InvalidClaim(CrowdError):
    """A claim cannot be made; the word tells what is wrong."""

    def __init__(self, word):
        self.word = word


class InvalidCrowd(CrowdError):
    """A crowd cannot be made; the number tells which part is wrong."""

    def __init__(self, at):
        self.at = at


class InvalidRow(CrowdError):
    """A row or a program cannot be made; the word tells which argument is wrong."""

    def __init__(self, word):
        self.word = word


class InvalidText(CrowdError):
    """A text cannot be read; the number tells which word, part or line is wrong."""

    def __init__(self, at):
        self.at = at


class InvalidCommand(CrowdError):
    """A desk does not know such a command."""


class Endless(CrowdError):
    """A run never ends."""


class Refused(CrowdError):
    """One of several programs never ends; the number tells which one."""

    def __init__(self, at):
        self.at = at


class NoRow(IndexError):
    """A program has no row with this number."""

    def __init__(self, at):
        self.at = at


class NoMember(LookupError):
    """Not so many members of this kind are there."""

    def __init__(self, kind):
        self.kind = kind
