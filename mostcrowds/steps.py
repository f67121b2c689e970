"""Rows of steps: how a group is made out of its names.

A step is a tuple (sign, detail, places): its sign; its detail, that is, the name, the number of an `at`, else 0; and
the places of the steps that it joins, which stand ahead of it. The last step is the whole group. A part that is used
several times stands once, so work on a row does not grow with how often parts are shared, and no function calls itself,
however deep the signs are nested.
"""

from mostcrowds.checks import is_name
from mostcrowds.errors import InvalidText
from mostcrowds.reading import number_at, word_at

NAME = "name"
AT = "at"

# How many groups each of the other signs joins.
JOINED = {"all": 0, "none": 0, "~": 1, "&": 2, "|": 2, "-": 2, "^": 2}


def joined(sign, detail, rows):
    """The steps of a group that joins groups with these rows of steps."""
    steps = []
    roots = []
    for row in rows:
        steps.extend(moved_on(row, len(steps)))
        roots.append(len(steps) - 1)
    return steps + [(sign, detail, tuple(roots))]


def moved_on(steps, by):
    """The same steps, to stand behind so many other ones."""
    return [(sign, detail, tuple([place + by for place in places])) for sign, detail, places in steps]


def each_once(steps):
    """The same steps, as a tuple in which none stands twice."""
    kept = []
    found = {}
    new_places = []
    for sign, detail, places in steps:
        step = (sign, detail, tuple([new_places[place] for place in places]))
        if step not in found:
            found[step] = len(kept)
            kept.append(step)
        new_places.append(found[step])
    return tuple(kept)


def replaced(steps, rows):
    """The steps with rows of steps (a dict from names) in the place of names."""
    made = []
    new_places = []
    for sign, detail, places in steps:
        if sign == NAME and detail in rows:
            made.extend(moved_on(rows[detail], len(made)))
        else:
            made.append((sign, detail, tuple([new_places[place] for place in places])))
        new_places.append(len(made) - 1)
    return made


def names_in(steps):
    """The names in the steps, ascending."""
    return tuple(sorted(set([detail for sign, detail, _ in steps if sign == NAME])))


def who(steps, having, everyone):
    """Which kinds are in the group: `having` tells which ones have a name, `everyone` which ones there are.

    Kinds are told as one integer, a binary digit for each, so that all are worked out at once.
    """
    found = []
    for sign, detail, places in steps:
        parts = [found[place] for place in places]
        if sign == NAME:
            found.append(having.get(detail, 0))
        elif sign == AT:
            found.append(in_enough(detail, parts, everyone))
        else:
            found.append(in_both(sign, parts, everyone))
    return found[-1]


def in_both(sign, parts, everyone):
    """Which kinds are in what a sign makes out of its parts."""
    if sign == "all":
        return everyone
    if sign == "none":
        return 0
    if sign == "~":
        return everyone ^ parts[0]
    if sign == "&":
        return parts[0] & parts[1]
    if sign == "|":
        return parts[0] | parts[1]
    if sign == "-":
        return parts[0] & (everyone ^ parts[1])
    return parts[0] ^ parts[1]


def in_enough(number, parts, everyone):
    """Which kinds are in at least so many of the parts."""
    if number > len(parts):
        return 0
    reached = [everyone] + [0] * number
    for part in parts:
        # Who is in one part more has reached one more than before.
        more = [reached[at] | (reached[at - 1] & part) for at in range(1, number + 1)]
        reached = [everyone] + more
    return reached[number]


def text_of(steps):
    """The text of the group, each sign ahead of what it joins."""
    texts = []
    for sign, detail, places in steps:
        words = head(sign, detail, len(places)) + [texts[place] for place in places]
        texts.append(" ".join(words))
    return texts[-1]


def head(sign, detail, many):
    """The words of a step itself."""
    if sign == NAME:
        return [detail]
    if sign == AT:
        return [AT, str(detail), str(many)]
    return [sign]


def read_steps(words, start):
    """The steps of the group whose text begins at a word, and the number of the word behind it."""
    signs = []
    missing = 1
    at = start
    while missing > 0:
        sign, detail, many, at = sign_at(words, at)
        signs.append((sign, detail, many))
        missing = missing + many - 1
    return steps_of(signs), at


def sign_at(words, at):
    """The sign at a word, its detail, how many groups it joins, and the number of the word behind it."""
    word = word_at(words, at)
    if word in JOINED:
        return word, 0, JOINED[word], at + 1
    if word == AT:
        return AT, number_at(words, at + 1), number_at(words, at + 2), at + 3
    if not is_name(word):
        raise InvalidText(at)
    return NAME, word, 0, at + 1


def steps_of(signs):
    """The steps of signs that stand ahead of what they join; from behind, all that a sign joins is there already."""
    steps = []
    waiting = []
    for sign, detail, many in signs[::-1]:
        places = [waiting.pop() for _ in range(many)]
        steps.append((sign, detail, tuple(places)))
        waiting.append(len(steps) - 1)
    return steps
