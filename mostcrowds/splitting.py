"""Splitting: two crowds that differ only in who is in one group, looked at as one crowd.

The members of both are matched. Each pair has a kind of its own: the kind that it has in the first crowd, and the one
that it has in the second crowd, which is the same but perhaps for one name.
"""

from mostcrowds.claims import MORE
from mostcrowds.courses import look_alike
from mostcrowds.systems import kept, with_kinds


def is_told_apart(setting, courses, other, name):
    """Whether two crowds that differ only in who is in a group may have different outcomes as far as a name goes."""
    pairs = pairs_of_kinds(setting.many, setting.names.index(other))
    for at, course in enumerate(courses):
        # The other way round, both crowds have changed places.
        for against in courses[at:]:
            if can_part(setting, pairs, course, against, name):
                return True
    return False


def pairs_of_kinds(many, place):
    """All pairs of kinds that are the same but perhaps for the name at a place."""
    return [(kind, other) for kind in range(many) for other in (kind, kind ^ (1 << place))]


def can_part(setting, pairs, course, against, name):
    """Whether matched crowds can go these ways and have different outcomes as far as a name goes."""
    firsts = [first for first, _ in pairs]
    seconds = [second for _, second in pairs]
    before = with_kinds([*setting.system, *course.system], firsts)
    system = before + with_kinds([*setting.system, *against.system], seconds)
    if look_alike(course, against):
        mine, others = course.held[name], against.held[name]
        row = [((mine >> first) ^ (others >> second)) & 1 for first, second in pairs]
        system = system + [(MORE, row)]
    return kept(system, len(pairs)) is not None
