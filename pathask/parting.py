"""A web and a way of it that part two patterns."""

from pathask.names import name_of


# Each pair bears how it was come to: None, or a tuple (pair ahead, marks there, side, word).
def parted(came, pair, marks):
    marked = [marks]
    turns = []
    while came[pair] is not None:
        ahead = came[pair]
        marked.append(ahead[1])
        turns.append((ahead[2], ahead[3]))
        pair = ahead[0]
    return told_apart(list(reversed(marked)), list(reversed(turns)))


# Each place on the way gets a knot of its own, so that its marks and ties are free.
def told_apart(marked, turns):
    knots = [(name_of(number), marks) for number, marks in enumerate(marked)]
    ties = []
    steps = []
    for number, turn in enumerate(turns):
        here = name_of(number)
        there = name_of(number + 1)
        steps.append((turn[0], turn[1], there))
        ties.append((here, turn[1], there) if turn[0] == "on" else (there, turn[1], here))
    return ("no", (tuple(sorted(knots)), tuple(sorted(ties))), (name_of(0), tuple(steps)))
