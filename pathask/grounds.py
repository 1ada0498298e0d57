"""A machine on a web: where one move leads from a place, a tuple (knot, stand)."""

from pathask.machines import moves_near
from pathask.patterns import ANY, holds


# Made once for many questions, so that neither the web nor the machine is searched anew at each place.
class Ground:
    def __init__(self, web, machine):
        self.near = moves_near(machine)
        self.marked = dict([(knot, web.marks(knot)) for knot in web.knots()])
        self.paths = dict([(knot, steps_by_kind(web.steps(knot))) for knot in web.knots()])

    def has(self, place):
        return place[0] in self.marked and place[1] in self.near

    # This and the next one tell tuples (place, step): the place that a move leads to, and the step by which or None.
    def led_without_step(self, place):
        marks = self.marked[place[0]]
        return [((place[0], stand), None) for leaf, stand in self.near[place[1]] if holds(leaf, marks)]

    def led_by_step(self, place):
        found = []
        for leaf, stand in self.near[place[1]]:
            if leaf[0] == "step":
                steps = self.paths[place[0]].get((leaf[1], leaf[2]), [])
                found.extend([((step[2], stand), step) for step in steps])
        return found

    def led_to(self, place):
        return [led for led, step in self.led_without_step(place) + self.led_by_step(place)]


def steps_by_kind(steps):
    found = {}
    for step in steps:
        for word in (step[1], ANY):
            found.setdefault((step[0], word), []).append(step)
    return found
