"""A machine on a web, gone by all its stands at once, so that each way is gone in one manner only.

A throng is a tuple (knot, stands): where one is, and all the stands that can be come to by the way so far.
"""

from pathask.machines import moves_near
from pathask.moves import gone_by_step, gone_without_steps


class Throngs:
    def __init__(self, web, machine):
        self.near = moves_near(machine)
        self.begin = machine[1]
        self.ends = machine[2]
        self.marked = dict([(knot, web.marks(knot)) for knot in web.knots()])
        self.paths = dict([(knot, web.steps(knot)) for knot in web.knots()])
        # Ways are many, throngs few: each one's steps are reckoned once.
        self.known = {}

    def first(self, knot):
        return self.gathered(knot, [self.begin])

    def gathered(self, knot, stands):
        return (knot, tuple(gone_without_steps(self.near, stands, self.marked[knot])))

    def is_over(self, throng, knot):
        return throng[0] == knot and len(set(throng[1]) & set(self.ends)) > 0

    # Tuples (step, throng) in the order of the steps; without those that no way that fits can go on from.
    def led(self, throng):
        if throng not in self.known:
            found = [(step, self.led_by(throng, step)) for step in self.paths[throng[0]]]
            self.known[throng] = [(step, behind) for step, behind in found if behind[1]]
        return self.known[throng]

    def led_by(self, throng, step):
        return self.gathered(step[2], gone_by_step(self.near, throng[1], step[0], step[1]))
