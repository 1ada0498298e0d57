"""How many ways of a length go from a knot to another one and fit a pattern."""

from pathask.machines import machine_of
from pathask.throngs import Throngs


def counted(web, pattern, one, other, length):
    web.need_knot(one)
    web.need_knot(other)
    throngs = Throngs(web, machine_of(pattern))
    first = throngs.first(one)
    return tails_of(throngs, first, other, length)[0][first]


# For each number of steps from 0 to the length a dict: of each throng that may be there behind so many steps, by how
# many ways one goes on from it, of as many steps as are left, to the other knot and an end.
def tails_of(throngs, first, other, length):
    layers = layers_from(throngs, first, length)
    tails = dict([(throng, 1 if throngs.is_over(throng, other) else 0) for throng in layers[-1]])
    told = [tails]
    for layer in reversed(layers[:-1]):
        tails = one_step_longer(throngs, layer, tails)
        told.append(tails)
    return list(reversed(told))


def layers_from(throngs, first, length):
    layers = [[first]]
    while len(layers) <= length:
        found = {}
        for throng in layers[-1]:
            found.update(dict([(behind, True) for step, behind in throngs.led(throng)]))
        layers.append(list(found))
    return layers


def one_step_longer(throngs, layer, tails):
    found = {}
    for throng in layer:
        found[throng] = sum([tails[behind] for step, behind in throngs.led(throng)])
    return found
