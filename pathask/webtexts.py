"""Webs written as lines, and read again."""

from pathask.errors import NoLine
from pathask.names import is_name
from pathask.webs import MOST_MARKS, Web


def shown_web(web):
    rows = web.rows()
    lines = [" ".join(["knot", name] + list(marks)) for name, marks in rows[0]]
    return lines + [" ".join(["tie"] + list(tie)) for tie in rows[1]]


def read_web(lines):
    web = Web()
    for number, line in enumerate(lines):
        words = line.split(" ")
        if is_knot_line(words):
            web.put_knot(words[1], words[2:])
        elif is_tie_line(words):
            web.put_tie(words[1], words[2], words[3])
        else:
            raise NoLine(number)
    return web


def is_knot_line(words):
    marks = words[2:]
    if len(marks) > MOST_MARKS or len(set(marks)) < len(marks):
        return False
    return words[0] == "knot" and len(words) >= 2 and are_names(words[1:])


def is_tie_line(words):
    return words[0] == "tie" and len(words) == 4 and are_names(words[1:])


def are_names(words):
    return all([is_name(word) for word in words])
