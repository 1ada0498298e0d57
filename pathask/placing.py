"""The ways of a length that fit a pattern, one by one in their order."""

from pathask.counting import tails_of
from pathask.errors import NoWay
from pathask.machines import machine_of
from pathask.throngs import Throngs
from pathask.ways import end_of


def way_at(web, pattern, one, other, length, k):
    web.need_knot(one)
    web.need_knot(other)
    throngs = Throngs(web, machine_of(pattern))
    throng = throngs.first(one)
    tails = tails_of(throngs, throng, other, length)
    if not 0 <= k < tails[0][throng]:
        raise NoWay(tails[0][throng])
    steps = []
    for tail in tails[1:]:
        turn = turn_of(throngs.led(throng), tail, k)
        steps.append(turn[0])
        throng = turn[1]
        k = turn[2]
    return (one, tuple(steps))


# A tuple of the step by which the k-th of all ways goes on, the throng behind it, and which way it is among those from
# there. That there is a k-th one has been asked ahead.
def turn_of(led, tail, k):
    place = 0
    while k >= tail[led[place][1]]:
        k -= tail[led[place][1]]
        place += 1
    return (led[place][0], led[place][1], k)


def place_of(web, pattern, way):
    throngs = Throngs(web, machine_of(pattern))
    throng = throngs.first(way[0])
    tails = tails_of(throngs, throng, end_of(way), len(way[1]))
    place = 0
    for step, tail in zip(way[1], tails[1:]):
        led = throngs.led(throng)
        place += sum([tail[behind] for another, behind in led if another < step])
        throng = throngs.led_by(throng, step)
    return place
