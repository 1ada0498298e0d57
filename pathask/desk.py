"""A desk: a web, patterns and rules that are told and asked by lines."""

from pathask.counting import counted
from pathask.errors import NoName, TooMany
from pathask.lengths import plain_lengths
from pathask.lines import read_line
from pathask.machines import machine_of
from pathask.meeting import met
from pathask.reaching import reached, shortest
from pathask.texts import shown, shown_way
from pathask.webs import Web
from pathask.webtexts import shown_web
from pathask.within import within

MOST_RULES = 4
# How many patterns are named right behind the first word.
NAMED = {"both": 2, "ask": 1, "way": 1, "many": 1, "within": 2, "shown": 1}


class Desk:
    def __init__(self):
        self.web = Web()
        self.patterns = {}
        self.rules = []

    def say(self, line):
        words = read_line(line)
        if words[0] in NAMED:
            behind = NAMED[words[0]] + 1
            return self.answer(words[0], self.patterns_named(words[1:behind]), words[behind:])
        if words[0] == "ties":
            return or_none(", ".join([shown_tie(tie, length) for tie, length in plain_lengths(self.web, self.rules)]))
        if words[0] == "show":
            return or_none("; ".join(shown_web(self.web)))
        if words[0] in ("pattern", "rule", "drop"):
            self.note(words)
        else:
            self.change_web(words)
        return "ok"

    def patterns_named(self, names):
        for name in names:
            if name not in self.patterns:
                raise NoName(name)
        return [self.patterns[name] for name in names]

    def answer(self, first, patterns, rest):
        if first == "within":
            return within(patterns[0], patterns[1])[0]
        if first == "shown":
            return shown(patterns[0])
        if first == "many":
            return str(counted(self.web, patterns[0], rest[0], rest[1], rest[2]))
        machine = machine_of(patterns[0])
        if first == "ask":
            return or_none(" ".join(reached(self.web, machine, rest[0])))
        if first == "both":
            machine = met(machine, machine_of(patterns[1]))
        told = shortest(self.web, machine, rest[0], rest[1])
        return shown_way(told[1]) if told[0] == "way" else or_none("")

    def note(self, words):
        if words[0] == "pattern":
            self.patterns[words[1]] = words[2]
        elif words[0] == "drop":
            self.rules = []
        elif len(self.rules) >= MOST_RULES:
            raise TooMany("rules")
        else:
            self.rules.append((words[1], words[2]))

    def change_web(self, words):
        if words[0] == "knot":
            self.web.put_knot(words[1], words[2:])
        elif words[0] == "gone":
            self.web.take_knot(words[1])
        elif words[0] == "tie":
            self.web.put_tie(words[1], words[2], words[3])
        elif words[0] == "untie":
            self.web.take_tie(words[1], words[2], words[3])
        elif words[0] == "mark":
            self.web.put_mark(words[1], words[2])
        else:
            self.web.take_mark(words[1], words[2])


def shown_tie(tie, length):
    return " ".join(list(tie) + [str(length)])


def or_none(text):
    return text if text else "-"
