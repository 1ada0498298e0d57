"""The machines of two patterns gone abreast in whatever web: at all knots and by all steps that they can tell apart."""

from pathask.machines import machine_of, moves_near
from pathask.moves import BEGIN, END, gone_by_step, gone_without_steps
from pathask.names import name_of
from pathask.patterns import SIDES, marks_in, words_in


class Abreast:
    def __init__(self, one, other):
        self.firsts = moves_near(machine_of(one))
        self.lasts = moves_near(machine_of(other))
        self.choices = choices_of(sorted(set(marks_in(one) + marks_in(other))))
        self.turns = turns_of(sorted(set(words_in(one) + words_in(other))))

    def first(self):
        return (BEGIN, (BEGIN,))

    def has(self, pair):
        return pair[0] in self.firsts and all([stand in self.lasts for stand in pair[1]])

    # What is come to without steps from a pair at a knot with these marks: stands of the one, stands of the other.
    def gone(self, pair, marks):
        one = gone_without_steps(self.firsts, [pair[0]], marks)
        return (one, gone_without_steps(self.lasts, pair[1], marks))

    def is_parted(self, gone):
        return END in gone[0] and END not in gone[1]

    # Tuples (pair, side, word): where each step leads from there.
    def led(self, gone):
        found = []
        for side, word in self.turns:
            stands = tuple(gone_by_step(self.lasts, gone[1], side, word))
            for stand in gone_by_step(self.firsts, gone[0], side, word):
                found.append(((stand, stands), side, word))
        return found


def choices_of(marks):
    found = [()]
    for mark in marks:
        found = found + [fewer + (mark,) for fewer in found]
    return found


# All words that are none of the patterns' are alike to them, so one stands for all.
def turns_of(words):
    found = []
    for side in SIDES:
        found.extend([(side, word) for word in words + [strange_to(words)]])
    return found


def strange_to(words):
    number = 0
    while name_of(number) in words:
        number += 1
    return name_of(number)
