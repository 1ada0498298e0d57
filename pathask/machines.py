"""Machines: tuples (many, begin, ends, moves) by which one goes along ways."""

from pathask.kinds import is_row, is_whole
from pathask.moves import BEGIN, END, by_stand, goes_along, gone_by_step, gone_without_steps, laid_out
from pathask.patterns import is_leaf


def is_machine(thing):
    if not is_row(thing, 4):
        return False
    many = thing[0]
    if not is_whole(many) or many < 1 or not is_stand(many, thing[1]):
        return False
    return are_ends(many, thing[2]) and are_moves(many, thing[3])


def is_stand(many, thing):
    return is_whole(thing) and 0 <= thing < many


def are_ends(many, thing):
    return isinstance(thing, tuple) and all([is_stand(many, end) for end in thing]) and is_rising(thing)


def are_moves(many, thing):
    return isinstance(thing, tuple) and all([is_move(many, move) for move in thing]) and is_rising(thing)


def is_move(many, thing):
    return is_row(thing, 3) and is_stand(many, thing[0]) and is_leaf(thing[1]) and is_stand(many, thing[2])


# Sorted and each once. Python can't compare all things, so each is asked ahead whether it is what it should be.
def is_rising(things):
    return all([one < other for one, other in zip(things, things[1:])])


def machine_of(pattern):
    laid = laid_out(pattern)
    return (laid[0], BEGIN, (END,), tuple(sorted(set(laid[1]))))


def come_to(machine, stands, marks):
    return tuple(gone_without_steps(moves_near(machine), stands, marks))


def stepped(machine, stands, side, word):
    return tuple(gone_by_step(moves_near(machine), stands, side, word))


def goes(web, machine, way):
    return goes_along(web, moves_near(machine), machine[1], machine[2], way)


def moves_near(machine):
    return by_stand(machine[0], machine[3])
