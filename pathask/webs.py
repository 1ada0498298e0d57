"""Webs: knots with their marks, and named ties from knot to knot."""

from pathask.errors import NoKnot, NoMark, NoTie, TooMany, Twice

MOST_KNOTS = 40
MOST_MARKS = 5
MOST_TIES = 300


class Web:
    def __init__(self):
        self.marked = {}
        self.tied = {}
        # The same ties again as steps of each knot, so that a great web is not searched whole for them.
        self.near = {}

    def put_knot(self, name, marks):
        if name in self.marked:
            raise Twice(name)
        if len(self.marked) >= MOST_KNOTS:
            raise TooMany("knots")
        self.lay_knot(name, marks)

    def take_knot(self, name):
        self.need_knot(name)
        for side, word, other in self.steps(name):
            if side == "on":
                self.drop_tie(name, word, other)
            else:
                self.drop_tie(other, word, name)
        self.near.pop(name)
        self.marked.pop(name)

    def put_tie(self, one, word, other):
        self.need_knot(one)
        self.need_knot(other)
        if self.has_tie(one, word, other):
            raise Twice(word)
        if len(self.tied) >= MOST_TIES:
            raise TooMany("ties")
        self.lay_tie(one, word, other)

    def take_tie(self, one, word, other):
        self.need_knot(one)
        self.need_knot(other)
        if not self.has_tie(one, word, other):
            raise NoTie((one, word, other))
        self.drop_tie(one, word, other)

    def put_mark(self, knot, mark):
        self.need_knot(knot)
        if mark in self.marked[knot]:
            raise Twice(mark)
        if len(self.marked[knot]) >= MOST_MARKS:
            raise TooMany("marks")
        self.marked[knot][mark] = True

    def take_mark(self, knot, mark):
        self.need_knot(knot)
        if mark not in self.marked[knot]:
            raise NoMark(mark)
        self.marked[knot].pop(mark)

    def knots(self):
        return sorted(self.marked)

    def marks(self, knot):
        self.need_knot(knot)
        return sorted(self.marked[knot])

    def has_tie(self, one, word, other):
        return (one, word, other) in self.tied

    def steps(self, knot):
        self.need_knot(knot)
        return sorted(self.near[knot])

    def rows(self):
        knots = [(name, tuple(self.marks(name))) for name in self.knots()]
        return (tuple(knots), tuple(sorted(self.tied)))

    def like(self):
        return web_of(self.rows())

    def need_knot(self, name):
        if name not in self.marked:
            raise NoKnot(name)

    # The three below ask nothing: rows may bring more knots and ties than deeds may put in.
    def lay_knot(self, name, marks):
        self.marked[name] = dict([(mark, True) for mark in marks])
        self.near[name] = {}

    def lay_tie(self, one, word, other):
        self.tied[(one, word, other)] = True
        self.near[one][("on", word, other)] = True
        self.near[other][("back", word, one)] = True

    def drop_tie(self, one, word, other):
        # A tie from a knot to itself is two of its steps: with the knot it is dropped twice.
        self.tied.pop((one, word, other), None)
        self.near[one].pop(("on", word, other), None)
        self.near[other].pop(("back", word, one), None)


def web_of(rows):
    web = Web()
    for name, marks in rows[0]:
        web.lay_knot(name, marks)
    for one, word, other in rows[1]:
        web.lay_tie(one, word, other)
    return web
