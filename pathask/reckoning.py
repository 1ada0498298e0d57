"""The rules' ties found in the order of their plain lengths, the shortest ones first.

All rules' machines go from all knots at once. A place is a tuple (number of the rule, knot where the way began, knot,
stand). By a step of the web's own one place leads to another in one step more, by a step of a rules' tie in as many
more as that tie is long. Nothing makes a way shorter, so the place that is next by its length can't be come to by
fewer steps, and a tie that is found by it is as long as it.
"""

from pathask.grounds import Ground
from pathask.machines import machine_of
from pathask.patterns import takes
from pathask.ways import back_of


class Reckoning:
    def __init__(self, web, rules):
        self.web = web
        self.words = [word for word, pattern in rules]
        self.machines = [machine_of(pattern) for word, pattern in rules]
        self.grounds = [Ground(self.web, machine) for machine in self.machines]
        # The rules' ties that are none of the web, in the order in which they are found, and the last places of ways.
        self.lengths = {}
        self.lasts = {}
        # Of each place that is settled the length, and the place ahead with the step from it.
        self.far = {}
        self.came = {}
        # Of each knot the places there that are settled, and the steps by rules' ties that are found, with lengths.
        self.settled = dict([(knot, []) for knot in web.knots()])
        self.leaps = dict([(knot, []) for knot in web.knots()])
        # By length the places to come, as tuples (place, place ahead, step).
        self.coming = {}
        self.set_out()
        self.go_on()

    def set_out(self):
        for number, machine in enumerate(self.machines):
            for knot in self.web.knots():
                self.offer((number, knot, knot, machine[1]), None, None, 0)

    def offer(self, place, ahead, step, length):
        if place not in self.far:
            self.coming.setdefault(length, []).append((place, ahead, step))

    def go_on(self):
        while self.coming:
            length = min(self.coming)
            waiting = self.coming.pop(length)
            for place, ahead, step in waiting:
                if place not in self.far:
                    self.far[place] = length
                    self.came[place] = (ahead, step)
                    self.settle(place)

    def settle(self, place):
        ground = self.grounds[place[0]]
        length = self.far[place]
        for led, step in ground.led_without_step(place[2:]):
            self.offer(place[:2] + led, place, step, length)
        for led, step in ground.led_by_step(place[2:]):
            self.offer(place[:2] + led, place, step, length + 1)
        for step, more in self.leaps[place[2]]:
            self.leap(place, step, more)
        self.settled[place[2]].append(place)
        if place[3] in self.machines[place[0]][2]:
            self.find_tie(place)

    def leap(self, place, step, more):
        for leaf, stand in self.grounds[place[0]].near[place[3]]:
            if takes(leaf, step[0], step[1]):
                self.offer(place[:2] + (step[2], stand), place, step, self.far[place] + more)

    def find_tie(self, place):
        tie = (place[1], self.words[place[0]], place[2])
        if tie in self.lengths or self.web.has_tie(tie[0], tie[1], tie[2]):
            return
        self.lengths[tie] = self.far[place]
        self.lasts[tie] = place
        self.add_leap(tie[0], ("on", tie[1], tie[2]), self.far[place])
        self.add_leap(tie[2], ("back", tie[1], tie[0]), self.far[place])

    def add_leap(self, knot, step, more):
        self.leaps[knot].append((step, more))
        for place in self.settled[knot]:
            self.leap(place, step, more)

    # For each tie of at most so many steps a plain way. Ties on the way were found ahead, so theirs are there already.
    def plain_ways(self, most):
        ways = {}
        for tie in self.lengths:
            if self.lengths[tie] <= most:
                ways[tie] = (tie[0], self.plain_steps(ways, tie))
        return ways

    def plain_steps(self, ways, tie):
        found = []
        for knot, step in self.steps_to(self.lasts[tie]):
            found.extend(self.put_for(ways, knot, step))
        return tuple(found)

    # Tuples (knot, step): each step with the knot from which it goes.
    def steps_to(self, place):
        found = []
        while self.came[place][0] is not None:
            ahead = self.came[place][0]
            if self.came[place][1] is not None:
                found.append((ahead[2], self.came[place][1]))
            place = ahead
        return list(reversed(found))

    def put_for(self, ways, knot, step):
        tie = (knot, step[1], step[2]) if step[0] == "on" else (step[2], step[1], knot)
        if tie not in ways:
            return [step]
        return ways[tie][1] if step[0] == "on" else back_of(ways[tie])[1]
