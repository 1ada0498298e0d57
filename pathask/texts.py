"""Patterns and ways written by words parted by single blanks, and read again."""

from pathask.errors import NoText
from pathask.names import is_name
from pathask.patterns import DEEPEST, MOST_PARTS, MOST_WITHIN, SIDES, is_word, right_within

FIRST_WORDS = ("stay", "on", "back", "at", "off", "then", "either", "many")
MOST_STEPS = 60


def shown(pattern):
    words = []
    waiting = [pattern]
    while waiting:
        part = waiting.pop()
        words.extend(own_words(part))
        waiting.extend(list(reversed(right_within(part))))
    return " ".join(words)


def own_words(part):
    if part[0] == "step":
        return [part[1], part[2]]
    if part[0] in ("then", "either"):
        return [part[0], str(len(part[1]))]
    return ["many"] if part[0] == "many" else list(part)


def shown_way(way):
    words = [way[0]]
    for step in way[1]:
        words.extend(step)
    return " ".join(words)


def read_pattern(text):
    reader = Reader(text)
    pattern = reader.read_part(1)
    if reader.has_more():
        raise NoText(reader.at)
    return pattern


def read_way(text):
    reader = Reader(text)
    knot = reader.read_word(is_name)
    steps = []
    while reader.has_more():
        if len(steps) == MOST_STEPS:
            raise NoText(reader.at)
        side = reader.read_word(is_side)
        word = reader.read_word(is_name)
        steps.append((side, word, reader.read_word(is_name)))
    return (knot, tuple(steps))


def is_side(word):
    return word in SIDES


def is_first_word(word):
    return word in FIRST_WORDS


def is_number(word):
    return is_number_to(word, MOST_WITHIN)


def is_number_to(word, most):
    # Held against numbers as they are written, so that no other way of writing one is let in.
    return word in [str(number) for number in range(most + 1)]


class Reader:
    def __init__(self, text):
        self.words = text.split(" ")
        self.at = 0
        self.parts = 0

    def has_more(self):
        return self.at < len(self.words)

    def read_word(self, is_right):
        # Where words lack, at is how many there are: the very number that the refusal bears.
        if not self.has_more() or not is_right(self.words[self.at]):
            raise NoText(self.at)
        self.at += 1
        return self.words[self.at - 1]

    def read_part(self, depth):
        self.parts += 1
        if self.parts > MOST_PARTS or depth > DEEPEST:
            raise NoText(self.at)
        first = self.read_word(is_first_word)
        if first == "stay":
            return (first,)
        if first in SIDES:
            return ("step", first, self.read_word(is_word))
        if first in ("at", "off"):
            return (first, self.read_word(is_name))
        if first == "many":
            return (first, self.read_part(depth + 1))
        return (first, self.read_parts(int(self.read_word(is_number)), depth + 1))

    def read_parts(self, many, depth):
        found = []
        while len(found) < many:
            found.append(self.read_part(depth))
        return tuple(found)
