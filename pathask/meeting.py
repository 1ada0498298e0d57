"""Machines made of machines: what two both go, and what one goes backwards."""

from pathask.machines import moves_near
from pathask.moves import STAY
from pathask.patterns import ANY
from pathask.ways import other_side


# Only pairs of stands that can be come to get a stand: of all pairs there may be ten thousand.
def met(one, other):
    firsts = moves_near(one)
    lasts = moves_near(other)
    stands = {(one[1], other[1]): 0}
    moves = []
    layer = list(stands)
    while layer:
        coming = []
        for pair in layer:
            for leaf, behind in moves_of_both(pair, firsts[pair[0]], lasts[pair[1]]):
                if behind not in stands:
                    stands[behind] = len(stands)
                    coming.append(behind)
                moves.append((stands[pair], leaf, stands[behind]))
        layer = coming
    return (len(stands), 0, tuple(ends_of_both(one, other, stands)), tuple(sorted(set(moves))))


def ends_of_both(one, other, stands):
    ends = []
    for first in one[2]:
        ends.extend([stands[(first, last)] for last in other[2] if (first, last) in stands])
    return sorted(ends)


# A step is gone by both at once; without steps each goes for itself, and the other one waits.
def moves_of_both(pair, firsts, lasts):
    moves = [(leaf, (stand, pair[1])) for leaf, stand in firsts if leaf[0] != "step"]
    moves.extend([(leaf, (pair[0], stand)) for leaf, stand in lasts if leaf[0] != "step"])
    for leaf, first in firsts:
        for another, last in lasts:
            if share_steps(leaf, another):
                moves.append((narrower(leaf, another), (first, last)))
    return moves


def share_steps(one, other):
    if one[0] != "step" or other[0] != "step" or one[1] != other[1]:
        return False
    return one[2] == other[2] or ANY in (one[2], other[2])


def narrower(one, other):
    return other if one[2] == ANY else one


# The new begin stands for all ends: a machine has many ends, but one begin.
def turned(machine):
    begin = machine[0]
    moves = [(other, leaf_backwards(leaf), one) for one, leaf, other in machine[3]]
    moves.extend([(begin, STAY, end) for end in machine[2]])
    return (begin + 1, begin, (machine[1],), tuple(sorted(moves)))


def leaf_backwards(leaf):
    return ("step", other_side(leaf[1]), leaf[2]) if leaf[0] == "step" else leaf
