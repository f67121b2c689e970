"""Groups told as nested tuples, and what the document says of them, worked out in the plainest way.

A recipe is a name (a string) or a tuple: ("all",), ("none",), ("~", r), ("&", r, s), ("|", r, s), ("-", r, s),
("^", r, s), ("at", number, [r, ..]).
"""

import itertools
import random

from mostcrowds.groups import Group

PAIRED = {
    "&": (lambda g, h: g & h, lambda x, y: x and y),
    "|": (lambda g, h: g | h, lambda x, y: x or y),
    "-": (lambda g, h: g - h, lambda x, y: x and not y),
    "^": (lambda g, h: g ^ h, lambda x, y: x != y),
}


def group_of(recipe):
    if isinstance(recipe, str):
        return Group.named(recipe)
    if recipe[0] == "all":
        return Group.every()
    if recipe[0] == "none":
        return Group.nothing()
    if recipe[0] == "~":
        return ~group_of(recipe[1])
    if recipe[0] == "at":
        return Group.at_least(recipe[1], [group_of(part) for part in recipe[2]])
    return PAIRED[recipe[0]][0](group_of(recipe[1]), group_of(recipe[2]))


def text_of(recipe):
    if isinstance(recipe, str):
        return recipe
    if recipe[0] == "at":
        return " ".join(["at", str(recipe[1]), str(len(recipe[2]))] + [text_of(part) for part in recipe[2]])
    return " ".join([recipe[0]] + [text_of(part) for part in recipe[1:]])


def read(text):
    """The recipe with a text."""
    return taken(text.split(" "))


def taken(words):
    """The recipe that words begin with; its words are taken away."""
    word = words.pop(0)
    if word in ("all", "none"):
        return (word,)
    if word == "~":
        return (word, taken(words))
    if word == "at":
        number, many = int(words.pop(0)), int(words.pop(0))
        return (word, number, [taken(words) for _ in range(many)])
    return (word, taken(words), taken(words)) if word in PAIRED else word


def names_of(recipe):
    if isinstance(recipe, str):
        return {recipe}
    parts = recipe[2] if recipe[0] == "at" else recipe[1:]
    return set().union(*[names_of(part) for part in parts])


def has(recipe, kind):
    if isinstance(recipe, str):
        return recipe in kind
    if recipe[0] in ("all", "none"):
        return recipe[0] == "all"
    if recipe[0] == "~":
        return not has(recipe[1], kind)
    if recipe[0] == "at":
        return len([part for part in recipe[2] if has(part, kind)]) >= recipe[1]
    return PAIRED[recipe[0]][1](has(recipe[1], kind), has(recipe[2], kind))


def put(recipe, others):
    if isinstance(recipe, str):
        return others.get(recipe, recipe)
    if recipe[0] == "at":
        return ("at", recipe[1], [put(part, others) for part in recipe[2]])
    return (recipe[0],) + tuple(put(part, others) for part in recipe[1:])


def all_kinds(names):
    """All kinds of these names, as sets, in some order."""
    names = sorted(names)
    return [set(part) for many in range(len(names) + 1) for part in itertools.combinations(names, many)]


def members(recipe, names):
    """The kinds of these names that are in the group."""
    return {tuple(sorted(kind)) for kind in all_kinds(names) if has(recipe, kind)}


def made_recipes(seed, many, depth, names="abc"):
    """So many recipes of at most this depth, the same ones in each run."""
    source = random.Random(seed)
    return [made_recipe(source, depth, names) for _ in range(many)]


def made_recipe(source, depth, names):
    if depth == 0 or source.random() < 0.15:
        return source.choice(list(names) * 3 + [("all",), ("none",)])
    sign = source.choice(["~", "&", "|", "-", "^", "at"])
    if sign == "~":
        return ("~", made_recipe(source, depth - 1, names))
    if sign == "at":
        parts = [made_recipe(source, depth - 1, names) for _ in range(source.randrange(5))]
        return ("at", source.randrange(6), parts)
    return (sign, made_recipe(source, depth - 1, names), made_recipe(source, depth - 1, names))


# Each way to make a group, alone and in one another.
ONE_LEVEL = (
    ["a", "b", ("all",), ("none",)]
    + [("~", "a"), ("at", 0, []), ("at", 1, []), ("at", 2, ["a"]), ("at", 2, ["a", "b", "c"]), ("at", 1, ["a", "a"])]
    + [(sign, left, right) for sign in PAIRED for left, right in [("a", "b"), ("b", "a"), ("c", ("all",))]]
)
TWO_LEVELS = [("~", recipe) for recipe in ONE_LEVEL] + [
    (sign, recipe, "c") for sign in PAIRED for recipe in ONE_LEVEL
] + [(sign, "b", recipe) for sign in PAIRED for recipe in ONE_LEVEL] + [
    ("at", 2, ["a", recipe, "c"]) for recipe in ONE_LEVEL
]
