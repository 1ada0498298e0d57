"""Ways: a knot, and steps from it one behind the other."""

from pathask.errors import NoMeet
from pathask.kinds import is_row


def is_way(web, thing):
    if not is_row(thing, 2) or not isinstance(thing[1], tuple):
        return False
    knot = thing[0]
    if knot not in web.knots():
        return False
    for step in thing[1]:
        if not is_step(web, knot, step):
            return False
        knot = step[2]
    return True


# Only of texts a tie may be asked, so all else is refused first.
def is_step(web, knot, thing):
    if not is_row(thing, 3) or not all([isinstance(part, str) for part in thing]):
        return False
    if thing[0] == "on":
        return web.has_tie(knot, thing[1], thing[2])
    return thing[0] == "back" and web.has_tie(thing[2], thing[1], knot)


def end_of(way):
    return way[1][-1][2] if way[1] else way[0]


def back_of(way):
    knot = way[0]
    steps = []
    for side, word, other in way[1]:
        steps.append((other_side(side), word, knot))
        knot = other
    return (knot, tuple(reversed(steps)))


def other_side(side):
    return "back" if side == "on" else "on"


def put_behind(one, other):
    if other[0] != end_of(one):
        raise NoMeet(other[0])
    return (one[0], one[1] + other[1])
