"""The lines that a desk is told, read word by word."""

from pathask.errors import NoLine, NoText
from pathask.names import is_name
from pathask.texts import Reader, is_number_to
from pathask.webs import MOST_MARKS

# How many names stand behind each line's first word; behind these there may be marks, a pattern or a number.
NAMES = {
    "knot": 1, "gone": 1, "tie": 3, "untie": 3, "mark": 2, "unmark": 2, "pattern": 1, "rule": 1, "drop": 0, "both": 4,
    "ask": 2, "way": 3, "many": 3, "within": 2, "ties": 0, "show": 0, "shown": 1}
MOST_LENGTH = 40


# The line's words as a list, but a pattern and a number as what they are.
def read_line(line):
    try:
        return read_whole(Reader(line))
    except NoText as refusal:
        raise NoLine(refusal.at) from None


def read_whole(reader):
    found = [reader.read_word(is_line_word)]
    while len(found) <= NAMES[found[0]]:
        found.append(reader.read_word(is_name))
    found.extend(read_rest(reader, found[0]))
    if reader.has_more():
        raise NoText(reader.at)
    return found


def read_rest(reader, first):
    if first == "knot":
        return read_marks(reader)
    if first in ("pattern", "rule"):
        return [reader.read_part(1)]
    return [int(reader.read_word(is_length))] if first == "many" else []


def read_marks(reader):
    marks = []
    while reader.has_more() and len(marks) < MOST_MARKS:
        at = reader.at
        mark = reader.read_word(is_name)
        if mark in marks:
            raise NoText(at)
        marks.append(mark)
    return marks


def is_line_word(word):
    return word in NAMES


def is_length(word):
    return is_number_to(word, MOST_LENGTH)
