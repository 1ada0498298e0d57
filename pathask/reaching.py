"""Who is reached by a machine in a web, by which shortest way, and what shows that there is none."""

from pathask.grounds import Ground


def reached(web, machine, knot):
    web.need_knot(knot)
    return sorted(ends_reached(Ground(web, machine), machine, [knot]))


def pairs(web, machine):
    knots = web.knots()
    found = []
    told = ends_reached(Ground(web, machine), machine, knots)
    for other in told:
        found.extend([(one, other) for number, one in enumerate(knots) if (told[other] >> number) & 1])
    return sorted(found)


# For each knot reached from some of these the bits of those from which it is: the n-th knot's bit is the n-th. So the
# places are gone through once for all knots, and anew only where a further knot's bit comes.
def ends_reached(ground, machine, knots):
    coming = dict([((knot, machine[1]), 1 << number) for number, knot in enumerate(knots)])
    bits = {}
    while coming:
        coming = spread(ground, bits, coming)
    found = {}
    ends = dict([(end, True) for end in machine[2]])
    for place in bits:
        if place[1] in ends:
            found[place[0]] = found.get(place[0], 0) | bits[place]
    return found


def spread(ground, bits, coming):
    further = {}
    for place in coming:
        fresh = coming[place] & ~bits.get(place, 0)
        if fresh:
            bits[place] = bits.get(place, 0) | fresh
            for led in ground.led_to(place):
                further[led] = further.get(led, 0) | fresh
    return further


def is_closed(web, machine, stands):
    ground = Ground(web, machine)
    places = dict([(place, True) for place in stands])
    for place in places:
        if not ground.has(place) or not all([led in places for led in ground.led_to(place)]):
            return False
    return True


def shortest(web, machine, one, other):
    web.need_knot(one)
    web.need_knot(other)
    ground = Ground(web, machine)
    ends = dict([((other, end), True) for end in machine[2]])
    layer = [(one, machine[1])]
    came = {(one, machine[1]): None}
    while layer:
        layer = with_those_beside(ground, came, layer)
        for place in layer:
            if place in ends:
                return ("way", way_to(came, place))
        layer = one_step_on(ground, came, layer)
    # All that can be come to is closed of itself.
    return ("none", sorted(came))


# A layer holds the places that take so many steps and no fewer, so those without a further step belong to it.
def with_those_beside(ground, came, layer):
    found = []
    while layer:
        found.extend(layer)
        fresh = []
        for place in layer:
            fresh.extend(noted(came, place, ground.led_without_step(place)))
        layer = fresh
    return found


def one_step_on(ground, came, layer):
    fresh = []
    for place in layer:
        fresh.extend(noted(came, place, ground.led_by_step(place)))
    return fresh


def noted(came, place, led):
    fresh = []
    for behind, step in led:
        if behind not in came:
            came[behind] = (place, step)
            fresh.append(behind)
    return fresh


def way_to(came, place):
    steps = []
    while came[place] is not None:
        if came[place][1] is not None:
            steps.append(came[place][1])
        place = came[place][0]
    return (place[0], tuple(reversed(steps)))
