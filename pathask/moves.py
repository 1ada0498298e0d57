"""Moves from stand to stand: a pattern laid out as moves, and a way gone by moves.

A move is a tuple (stand, leaf, stand). A pattern is laid out so that its moves lead from BEGIN to END along just the
ways that fit it. A span is a tuple (stand, pattern, stand) that is still to be laid out.
"""

from pathask.patterns import LEAVES, holds, takes

BEGIN = 0
END = 1
STAY = ("stay",)


def laid_out(pattern):
    many = 2
    moves = []
    spans = [(BEGIN, pattern, END)]
    while spans:
        narrower = []
        for span in spans:
            if span[1][0] in LEAVES:
                moves.append(span)
            else:
                narrower.extend(cut(span, many))
                many += new_stands(span[1])
        spans = narrower
    return (many, moves)


def new_stands(joint):
    if joint[0] == "many":
        return 1
    return max(len(joint[1]) - 1, 0) if joint[0] == "then" else 0


# Spans may share their first and last stands, since no move within one leads back into its first stand or out of its
# last one; only the span within a many does so, and there the going round is meant.
def cut(span, fresh):
    one = span[0]
    joint = span[1]
    other = span[2]
    if joint[0] == "either":
        return [(one, part, other) for part in joint[1]]
    if joint[0] == "many":
        return [(one, STAY, fresh), (fresh, joint[1], fresh), (fresh, STAY, other)]
    if not joint[1]:
        return [(one, STAY, other)]
    firsts = [one] + list(range(fresh, fresh + new_stands(joint)))
    lasts = firsts[1:] + [other]
    return list(zip(firsts, joint[1], lasts))


# A great machine's moves are not searched whole for those from one stand.
def by_stand(many, moves):
    near = dict([(stand, []) for stand in range(many)])
    for one, leaf, other in moves:
        near[one].append((leaf, other))
    return near


def gone_without_steps(near, stands, marks):
    found = dict([(stand, True) for stand in stands])
    waiting = list(found)
    while waiting:
        stand = waiting.pop()
        for leaf, other in near[stand]:
            if other not in found and holds(leaf, marks):
                found[other] = True
                waiting.append(other)
    return sorted(found)


def gone_by_step(near, stands, side, word):
    found = {}
    for stand in stands:
        for leaf, other in near[stand]:
            if takes(leaf, side, word):
                found[other] = True
    return sorted(found)


def goes_along(web, near, begin, ends, way):
    stands = gone_without_steps(near, [begin], web.marks(way[0]))
    for side, word, knot in way[1]:
        stands = gone_by_step(near, stands, side, word)
        stands = gone_without_steps(near, stands, web.marks(knot))
    return len(set(stands) & set(ends)) > 0
