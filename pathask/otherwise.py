"""Patterns put otherwise: backwards, plainly; and whether two are alike."""

from pathask.moves import STAY
from pathask.patterns import LEAVES
from pathask.ways import other_side
from pathask.within import within

NOTHING = ("either", ())


def backwards(pattern):
    if pattern[0] == "step":
        return ("step", other_side(pattern[1]), pattern[2])
    if pattern[0] in LEAVES:
        return pattern
    if pattern[0] == "many":
        return ("many", backwards(pattern[1]))
    parts = [backwards(part) for part in pattern[1]]
    return (pattern[0], tuple(reversed(parts)))


# From within outwards: what is right within is plain already, so a needless thing can only be right here.
def plainly(pattern):
    if pattern[0] in LEAVES:
        return pattern
    if pattern[0] == "many":
        return plain_many(plainly(pattern[1]))
    parts = [plainly(part) for part in pattern[1]]
    return plain_then(parts) if pattern[0] == "then" else plain_either(parts)


def plain_many(part):
    if part[0] == "many":
        return part
    return STAY if part in (STAY, NOTHING) else ("many", part)


def plain_then(parts):
    if NOTHING in parts:
        return NOTHING
    parts = [part for part in opened(parts, "then") if part != STAY]
    if not parts:
        return STAY
    return parts[0] if len(parts) == 1 else ("then", tuple(parts))


def plain_either(parts):
    parts = list(dict([(part, True) for part in opened(parts, "either")]))
    return parts[0] if len(parts) == 1 else ("either", tuple(parts))


def opened(parts, sort):
    found = []
    for part in parts:
        found.extend(part[1] if part[0] == sort else [part])
    return found


def alike(one, other):
    there = within(one, other)
    if there[0] == "no":
        return ("unlike", there[1], there[2])
    back = within(other, one)
    if back[0] == "no":
        return ("unlike", back[1], back[2])
    return ("alike", there[1], back[1])
