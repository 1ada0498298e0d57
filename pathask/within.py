"""Whether one pattern lies within another one in every web: pairs that show it, or a web and a way that part them.

A pair is a tuple (stand, stands): a stand of the one's machine that some way comes to, and all those of the other's
machine, or some of them, that this way comes to.
"""

from pathask.abreast import Abreast
from pathask.parting import parted


def within(one, other):
    abreast = Abreast(one, other)
    first = abreast.first()
    # How each pair was come to; in known there are the same pairs, by their first stand.
    came = {first: None}
    known = by_first([first])
    layer = [first]
    while layer:
        for pair in layer:
            marks = marks_that_part(abreast, pair)
            if marks is not None:
                return parted(came, pair, marks)
        layer = layer_behind(abreast, came, known, layer)
    return ("yes", sorted(came))


def marks_that_part(abreast, pair):
    for marks in abreast.choices:
        if abreast.is_parted(abreast.gone(pair, marks)):
            return marks
    return None


def layer_behind(abreast, came, known, layer):
    found = []
    for pair in layer:
        for marks in abreast.choices:
            for behind, side, word in abreast.led(abreast.gone(pair, marks)):
                if not is_covered(known, behind):
                    known.setdefault(behind[0], []).append(behind[1])
                    came[behind] = (pair, marks, side, word)
                    found.append(behind)
    return found


def shows(one, other, pairs):
    abreast = Abreast(one, other)
    if not all([abreast.has(pair) for pair in pairs]):
        return False
    known = by_first(pairs)
    return is_covered(known, abreast.first()) and all([is_shown(abreast, known, pair) for pair in pairs])


def is_shown(abreast, known, pair):
    for marks in abreast.choices:
        gone = abreast.gone(pair, marks)
        if abreast.is_parted(gone):
            return False
        if not all([is_covered(known, behind) for behind, side, word in abreast.led(gone)]):
            return False
    return True


def by_first(pairs):
    known = {}
    for stand, stands in pairs:
        known.setdefault(stand, []).append(stands)
    return known


# A pair with fewer stands asks for more, so it does for this one too.
def is_covered(known, pair):
    return any([len(set(stands) - set(pair[1])) == 0 for stands in known.get(pair[0], [])])
