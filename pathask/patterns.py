"""Patterns of ways: leaves, and patterns put together of others."""

from pathask.kinds import is_row
from pathask.names import is_name

LEAVES = ("stay", "step", "at", "off")
SIDES = ("on", "back")
ANY = "*"
MOST_PARTS = 40
MOST_WITHIN = 39
DEEPEST = 10


def is_pattern(thing):
    layer = [thing]
    depth = 0
    count = 0
    while layer:
        depth += 1
        count += len(layer)
        if depth > DEEPEST or count > MOST_PARTS:
            return False
        if not all([is_leaf(part) or is_joint(part) for part in layer]):
            return False
        layer = layer_below(layer)
    return True


def is_leaf(thing):
    if is_row(thing, 1):
        return thing[0] == "stay"
    if is_row(thing, 2):
        return thing[0] in ("at", "off") and is_name(thing[1])
    return is_row(thing, 3) and thing[0] == "step" and thing[1] in SIDES and is_word(thing[2])


def is_word(thing):
    return thing == ANY or is_name(thing)


# What lies within a joint is asked apart, in the next layer.
def is_joint(thing):
    if not is_row(thing, 2):
        return False
    if thing[0] in ("then", "either"):
        return isinstance(thing[1], tuple) and len(thing[1]) <= MOST_WITHIN
    return thing[0] == "many"


def right_within(pattern):
    if pattern[0] in LEAVES:
        return ()
    return (pattern[1],) if pattern[0] == "many" else pattern[1]


def layer_below(layer):
    found = []
    for pattern in layer:
        found.extend(right_within(pattern))
    return found


# By layers, not by calls within calls: an unfolded pattern may be deep.
def all_within(pattern):
    found = []
    layer = [pattern]
    while layer:
        found.extend(layer)
        layer = layer_below(layer)
    return found


def parts_in(pattern):
    return len(all_within(pattern))


def leaves_in(pattern):
    return len([part for part in all_within(pattern) if part[0] in LEAVES])


def words_in(pattern):
    return [word for word in words_of_steps(pattern) if word != ANY]


def words_of_steps(pattern):
    return sorted(set([part[2] for part in all_within(pattern) if part[0] == "step"]))


def marks_in(pattern):
    return sorted(set([part[1] for part in all_within(pattern) if part[0] in ("at", "off")]))


def holds(leaf, marks):
    if leaf[0] == "at":
        return leaf[1] in marks
    if leaf[0] == "off":
        return leaf[1] not in marks
    return leaf[0] == "stay"


def takes(leaf, side, word):
    return leaf[0] == "step" and leaf[1] == side and leaf[2] in (word, ANY)
