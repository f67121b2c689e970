"""Courses: the ways of programs, told by their weights alone, for all kinds of the names of a question."""

from mostcrowds.claims import MORE
from mostcrowds.groups import table
from mostcrowds.kinds import names_of
from mostcrowds.systems import kept, system_of
from mostcrowds.ways import ways


class Setting:
    """What a question is about: the names in some parts and in the claims given, and the system of these claims."""

    def __init__(self, parts, given):
        self.names = names_of([*parts, *given])
        self.many = 1 << len(self.names)
        self.system = system_of(given, self.names)

    def courses(self, program):
        """All ways of a program."""
        return [Course(way, self.names) for way in ways(program)]

    def open_courses(self, program):
        """Those ways of a program that are gone by crowds that keep the claims given."""
        return [course for course in self.courses(program) if self.can_keep(course.system)]

    def can_keep(self, system):
        """Whether a crowd keeps the claims given and a system."""
        return kept([*self.system, *system], self.many) is not None


class Course:
    """A way: the system of its claims, its end and its words, and which kinds each name holds."""

    def __init__(self, way, names):
        self.system = system_of(way.claims, names)
        self.end = way.end
        self.words = way.words
        self.held = {name: table(way[name], names) for name in names}


def look_alike(course, other):
    """Whether two ways have the same end and words."""
    return course.end == other.end and course.words == other.words


def held_otherwise(course, other):
    """For each name, ascending, the kinds that it holds on one of two ways only, told as one integer."""
    return [course.held[name] ^ other.held[name] for name in course.held]


def somebody(those, many):
    """The claim, told by its weights, that there is a member of one of the kinds that an integer tells."""
    return MORE, [(those >> kind) & 1 for kind in range(many)]
