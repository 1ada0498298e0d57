"""The refusals: one class for each, straight under PathError, bearing what it was made of."""


class PathError(ValueError):
    pass


class NoKnot(PathError):
    def __init__(self, name):
        PathError.__init__(self, name)
        self.name = name


class NoMark(PathError):
    def __init__(self, name):
        PathError.__init__(self, name)
        self.name = name


class NoName(PathError):
    def __init__(self, name):
        PathError.__init__(self, name)
        self.name = name


class Twice(PathError):
    def __init__(self, name):
        PathError.__init__(self, name)
        self.name = name


class TooMany(PathError):
    def __init__(self, word):
        PathError.__init__(self, word)
        self.word = word


class NoTie(PathError):
    def __init__(self, tie):
        PathError.__init__(self, tie)
        self.tie = tie


class NoMeet(PathError):
    def __init__(self, knot):
        PathError.__init__(self, knot)
        self.knot = knot


class NoText(PathError):
    def __init__(self, at):
        PathError.__init__(self, at)
        self.at = at


class NoLine(PathError):
    def __init__(self, at):
        PathError.__init__(self, at)
        self.at = at


class NoWay(PathError):
    def __init__(self, count):
        PathError.__init__(self, count)
        self.count = count


class TooLong(PathError):
    def __init__(self, count):
        PathError.__init__(self, count)
        self.count = count


class GoesRound(PathError):
    def __init__(self, ring):
        # Python keeps what an error is made with in its args as well: there too only a copy may stay.
        PathError.__init__(self, list(ring))
        self.ring = list(ring)


class NoSuch(PathError):
    def __init__(self, number):
        PathError.__init__(self, number)
        self.number = number


class NoPair(PathError):
    def __init__(self, one, other):
        PathError.__init__(self, one, other)
        self.one = one
        self.other = other
