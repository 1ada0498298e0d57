"""Pairs that are kept while knots, ties and marks come and go."""

from pathask.errors import NoPair, NoSuch
from pathask.machines import machine_of
from pathask.reaching import pairs, shortest


class Keeper:
    def __init__(self, web, patterns):
        self.web = web.like()
        self.machines = [machine_of(pattern) for pattern in patterns]
        self.kept = self.reckoned()

    def put_knot(self, name, marks):
        self.web.put_knot(name, marks)
        return self.changes()

    def take_knot(self, name):
        self.web.take_knot(name)
        return self.changes()

    def put_tie(self, one, word, other):
        self.web.put_tie(one, word, other)
        return self.changes()

    def take_tie(self, one, word, other):
        self.web.take_tie(one, word, other)
        return self.changes()

    def put_mark(self, knot, mark):
        self.web.put_mark(knot, mark)
        return self.changes()

    def take_mark(self, knot, mark):
        self.web.take_mark(knot, mark)
        return self.changes()

    def rows(self):
        return self.web.rows()

    def pairs(self, number):
        self.need_number(number)
        return list(self.kept[number])

    def way(self, number, one, other):
        self.need_number(number)
        told = shortest(self.web, self.machines[number], one, other)
        if told[0] == "none":
            raise NoPair(one, other)
        return told[1]

    def need_number(self, number):
        if not 0 <= number < len(self.machines):
            raise NoSuch(number)

    def reckoned(self):
        return [pairs(self.web, machine) for machine in self.machines]

    def changes(self):
        former = self.kept
        self.kept = self.reckoned()
        return [came_and_went(ahead, behind) for ahead, behind in zip(former, self.kept)]


def came_and_went(ahead, behind):
    return (sorted(set(behind) - set(ahead)), sorted(set(ahead) - set(behind)))
