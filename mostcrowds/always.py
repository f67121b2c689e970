"""Always: what holds of programs on all crowds that keep the claims given."""

from mostcrowds.courses import Setting, held_otherwise, look_alike, somebody
from mostcrowds.papers import is_right, refuted
from mostcrowds.splitting import is_told_apart
from mostcrowds.systems import contraries, crowd_of, fewest_kept, kept
from mostcrowds.tallies import weights_where
from mostcrowds.walks import NEVER

BAR = "bar"
SAME = "same"


def alike(p, q, *, given=()):
    """Whether two programs end alike on all crowds."""
    setting = Setting([p, q], given)
    return not is_one_kept(parting_systems(setting, p, q), setting.many)


def parting(p, q, *, given=()):
    """Some crowd on which two programs do not end alike, with as few kinds of members as possible, or `None`."""
    setting = Setting([p, q], given)
    return crowd_of(fewest_kept(parting_systems(setting, p, q), setting.many), setting.names)


def is_one_kept(systems, many):
    """Whether there is a crowd that keeps one of the systems."""
    for system in systems:
        if kept(system, many) is not None:
            return True
    return False


def parting_systems(setting, p, q):
    """Systems one of which is kept by each crowd meant on which programs do not end alike, and by no other crowd."""
    others = setting.open_courses(q)
    systems = []
    for course in setting.open_courses(p):
        for other in others:
            both = [*setting.system, *course.system, *other.system]
            if not look_alike(course, other):
                systems.append(both)
            elif any(held_otherwise(course, other)):
                systems.append([*both, somebody(in_one(held_otherwise(course, other)), setting.many)])
    return systems


def in_one(tables):
    """The kinds that one of several integers tells."""
    found = 0
    for kinds in tables:
        found = found | kinds
    return found


def tree(p, q, *, given=()):
    """Some right tree that shows that two programs end alike, or `None`."""
    setting = Setting([p, q], given)
    others = setting.courses(q)
    made = [branch(setting, course, others) for course in setting.courses(p)]
    return None if None in made else tuple(made)


def branch(setting, course, others):
    """The item of a tree for a way of the first program, or `None`."""
    paper = refuted([*setting.system, *course.system], setting.many)
    if paper is not None:
        return BAR, paper
    leaves = [leaf(setting, course, other) for other in others]
    return None if None in leaves else tuple(leaves)


def leaf(setting, course, other):
    """The item of a tree for ways of both programs, or `None`.

    One paper does for all kinds that are held otherwise: if nobody can be of any of them, its weights count no member
    above 0 for a single one of them either.
    """
    both = [*setting.system, *course.system, *other.system]
    if not look_alike(course, other):
        paper = refuted(both, setting.many)
        return None if paper is None else (BAR, paper)
    tables = held_otherwise(course, other)
    if not any(tables):
        return SAME, ()
    paper = refuted([*both, somebody(in_one(tables), setting.many)], setting.many)
    return None if paper is None else (SAME, (paper,) * len(each_kind(tables, setting.many)))


def each_kind(tables, many):
    """Each kind that an integer tells, one integer after another."""
    return [kind for kinds in tables for kind in range(many) if (kinds >> kind) & 1 == 1]


def tree_holds(p, q, value, *, given=()):
    """Whether any value is a right tree that shows that two programs end alike."""
    setting = Setting([p, q], given)
    courses, others = setting.courses(p), setting.courses(q)
    if not is_tuple_of(value, len(courses)):
        return False
    return all([branch_holds(setting, course, others, item) for course, item in zip(courses, value)])


def branch_holds(setting, course, others, value):
    """Whether any value is a right item of a tree for a way of the first program."""
    if is_worded(value, BAR):
        return is_right([*setting.system, *course.system], setting.many, value[1])
    if not is_tuple_of(value, len(others)):
        return False
    return all([leaf_holds(setting, course, other, item) for other, item in zip(others, value)])


def leaf_holds(setting, course, other, value):
    """Whether any value is a right item of a tree for ways of both programs."""
    both = [*setting.system, *course.system, *other.system]
    if is_worded(value, BAR):
        return is_right(both, setting.many, value[1])
    if not is_worded(value, SAME) or not look_alike(course, other):
        return False
    found = each_kind(held_otherwise(course, other), setting.many)
    if not is_tuple_of(value[1], len(found)):
        return False
    systems = [[*both, somebody(1 << kind, setting.many)] for kind in found]
    return all([is_right(system, setting.many, paper) for system, paper in zip(systems, value[1])])


def is_tuple_of(value, many):
    """Whether a value is a tuple of so many items."""
    return isinstance(value, tuple) and len(value) == many


def is_worded(value, word):
    """Whether a value is a pair of a word and something else."""
    return is_tuple_of(value, 2) and isinstance(value[0], str) and value[0] == word


def sure(program, claim, *, given=()):
    """Whether a claim holds in the end on all crowds on which a program ends or stops."""
    setting = Setting([program, claim], given)
    return not is_one_kept(breaking_systems(setting, program, claim), setting.many)


def breach(program, claim, *, given=()):
    """Some crowd on which a claim does not hold in the end, with as few kinds of members as possible, or `None`."""
    setting = Setting([program, claim], given)
    return crowd_of(fewest_kept(breaking_systems(setting, program, claim), setting.many), setting.names)


def settled(program, claim, *, given=()):
    """Whether a claim, asked in the end, is answered alike on all crowds on which a program ends or stops."""
    setting = Setting([program, claim], given)
    if not is_one_kept(breaking_systems(setting, program, claim), setting.many):
        return True
    return not is_one_kept(keeping_systems(setting, program, claim), setting.many)


def breaking_systems(setting, program, claim):
    """Systems one of which is kept by each crowd meant on which a claim fails in the end, and by no other crowd."""
    return [
        [*system, against] for system, row in asked_in_the_end(setting, program, claim)
        for against in contraries(claim.word, row)
    ]


def keeping_systems(setting, program, claim):
    """Systems one of which is kept by each crowd meant on which a claim holds in the end, and by no other crowd."""
    return [[*system, (claim.word, row)] for system, row in asked_in_the_end(setting, program, claim)]


def asked_in_the_end(setting, program, claim):
    """For each way that comes to an end: the system of who goes it, and the weights of a claim that is asked then."""
    return [
        ([*setting.system, *course.system], weights_where(claim.tally, course.held, setting.many))
        for course in setting.open_courses(program) if course.end != NEVER
    ]


def needed(program, name, *, given=()):
    """The names of a program that count for one of them."""
    setting = Setting([program], given)
    courses = setting.open_courses(program)
    return tuple([other for other in program.names if is_told_apart(setting, courses, other, name)])
