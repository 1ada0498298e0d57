import copy
import random
import unittest

from pathask.errors import NoKnot, NoMark, NoPair, NoSuch, NoTie, TooMany, Twice
from pathask.fitting import fits
from pathask.keeping import Keeper
from pathask.machines import machine_of
from pathask.reaching import pairs, shortest
from pathask.ways import end_of, is_way
from pathask.webs import Web, web_of
from plainly import (
    STAY, back, either, many, on, pairs_plainly, refused, some_pattern, some_web, then, web_of_size, web_with)

PATTERNS = [on("u"), many(on("*")), then(("at", "m"), on("*")), then(on("*"), ("off", "m")), STAY]


def row_web():
    return web_with({"a": ["m"], "b": [], "c": ["m", "n"]}, [("a", "u", "b"), ("b", "v", "c"), ("c", "u", "c")])


def deeds_of(keeper):
    return {
        "put_knot": keeper.put_knot, "take_knot": keeper.take_knot, "put_tie": keeper.put_tie,
        "take_tie": keeper.take_tie, "put_mark": keeper.put_mark, "take_mark": keeper.take_mark}


class Case(unittest.TestCase):
    def assert_keeps(self, keeper, rows, patterns):
        self.assertEqual(keeper.rows(), rows)
        web = web_of(rows)
        for number, pattern in enumerate(patterns):
            right = pairs_plainly(rows, pattern)
            self.assertEqual(keeper.pairs(number), right)
            self.assertEqual(pairs(web, machine_of(pattern)), right)

    def assert_deed(self, keeper, patterns, deed, *arguments):
        """The deed tells what came and went, and behind it all is as of a web of its own on which it is done."""
        ahead = [pairs_plainly(keeper.rows(), pattern) for pattern in patterns]
        web = web_of(keeper.rows())
        getattr(web, deed)(*copy.deepcopy(arguments))
        kept = copy.deepcopy(arguments)
        told = getattr(keeper, deed)(*arguments)
        self.assertEqual(arguments, kept)
        behind = [pairs_plainly(web.rows(), pattern) for pattern in patterns]
        right = [(sorted(set(new) - set(old)), sorted(set(old) - set(new))) for old, new in zip(ahead, behind)]
        self.assertEqual(told, right, (deed, arguments))
        self.assertIs(type(told), list)
        for entry in told:
            self.assertEqual((type(entry), type(entry[0]), type(entry[1])), (tuple, list, list))
        self.assert_keeps(keeper, web.rows(), patterns)
        return told

    def assert_ways(self, keeper, patterns):
        web = web_of(keeper.rows())
        for number, pattern in enumerate(patterns):
            held = keeper.pairs(number)
            for one in web.knots():
                for other in web.knots():
                    if (one, other) not in held:
                        self.assertEqual(refused(keeper.way, number, one, other), (NoPair, one, other))
                        continue
                    way = keeper.way(number, one, other)
                    self.assertIs(is_way(web, way) and fits(web, pattern, way), True)
                    self.assertEqual((way[0], end_of(way)), (one, other))
                    self.assertEqual(len(way[1]), len(shortest(web, machine_of(pattern), one, other)[1][1]))


class Deeds(Case):
    def test_a_knot_comes(self):
        keeper = Keeper(row_web(), PATTERNS)
        told = self.assert_deed(keeper, PATTERNS, "put_knot", "d", ["m", "n"])
        self.assertEqual(told, [([], []), ([("d", "d")], []), ([], []), ([], []), ([("d", "d")], [])])
        self.assert_deed(keeper, PATTERNS, "put_knot", "e", [])

    def test_a_knot_goes_with_its_ties(self):
        keeper = Keeper(row_web(), PATTERNS)
        told = self.assert_deed(keeper, PATTERNS, "take_knot", "b")
        self.assertEqual(told[1], ([], [("a", "b"), ("a", "c"), ("b", "b"), ("b", "c")]))
        self.assertEqual(told[0], ([], [("a", "b")]))
        self.assertEqual(keeper.rows(), ((("a", ("m",)), ("c", ("m", "n"))), (("c", "u", "c"),)))
        self.assert_deed(keeper, PATTERNS, "take_knot", "c")
        self.assert_deed(keeper, PATTERNS, "take_knot", "a")
        self.assertEqual([keeper.pairs(number) for number in range(5)], [[]] * 5)

    def test_a_tie_comes_and_goes(self):
        keeper = Keeper(row_web(), PATTERNS)
        told = self.assert_deed(keeper, PATTERNS, "put_tie", "c", "u", "a")
        self.assertEqual(told[0], ([("c", "a")], []))
        self.assertEqual(told[1], ([("b", "a"), ("c", "a"), ("c", "b")], []))
        self.assertEqual(told[4], ([], []))
        told = self.assert_deed(keeper, PATTERNS, "take_tie", "c", "u", "a")
        self.assertEqual(told[1], ([], [("b", "a"), ("c", "a"), ("c", "b")]))
        # Another tie leads there, too.
        told = self.assert_deed(keeper, PATTERNS, "put_tie", "a", "v", "b")
        self.assertEqual(told, [([], [])] * 5)
        self.assertEqual(self.assert_deed(keeper, PATTERNS, "take_tie", "a", "u", "b")[1], ([], []))

    def test_a_mark_comes_and_goes(self):
        keeper = Keeper(row_web(), PATTERNS)
        told = self.assert_deed(keeper, PATTERNS, "put_mark", "b", "m")
        self.assertEqual(told[2], ([("b", "c")], []))
        self.assertEqual(told[3], ([], [("a", "b")]))
        told = self.assert_deed(keeper, PATTERNS, "take_mark", "b", "m")
        self.assertEqual(told[2], ([], [("b", "c")]))
        self.assertEqual(told[3], ([("a", "b")], []))
        self.assertEqual(self.assert_deed(keeper, PATTERNS, "put_mark", "b", "o"), [([], [])] * 5)
        self.assert_deed(keeper, PATTERNS, "take_mark", "c", "m")

    def test_one_pattern_and_five(self):
        for patterns in ([on("u")], PATTERNS):
            keeper = Keeper(row_web(), patterns)
            self.assertEqual(len(keeper.put_tie("a", "u", "c")), len(patterns))
        keeper = Keeper(row_web(), [on("u"), on("u")])
        self.assertEqual(keeper.put_tie("a", "u", "c"), [([("a", "c")], []), ([("a", "c")], [])])

    def test_by_chance(self):
        chance = random.Random(101)
        came, went, refusals = 0, 0, 0
        for number in range(25):
            patterns = [some_pattern(chance, chance.randint(1, 8)) for each in range(chance.randint(1, 5))]
            patterns[0] = many(patterns[0])
            keeper = Keeper(some_web(chance, chance.randint(1, 4), chance.randint(0, 5)), patterns)
            for each in range(12):
                knot, other = chance.choice("abcde"), chance.choice("abcde")
                deed, arguments = chance.choice([
                    ("put_knot", (knot, [mark for mark in "mn" if chance.random() < 0.5])), ("take_knot", (knot,)),
                    ("put_tie", (knot, chance.choice("uv"), other)), ("put_tie", (knot, chance.choice("uv"), other)),
                    ("take_tie", (knot, chance.choice("uv"), other)), ("put_mark", (knot, chance.choice("mn"))),
                    ("take_mark", (knot, chance.choice("mn")))])
                web = web_of(keeper.rows())
                refusal = refused(getattr(web, deed), *arguments)
                if refusal:
                    rows = keeper.rows()
                    self.assertEqual(refused(getattr(keeper, deed), *arguments), refusal)
                    self.assert_keeps(keeper, rows, patterns)
                    refusals += 1
                else:
                    told = self.assert_deed(keeper, patterns, deed, *arguments)
                    came, went = came + sum(len(entry[0]) for entry in told), went + sum(len(entry[1]) for entry in told)
            self.assert_ways(keeper, patterns)
        self.assertGreater(min(came, went, refusals), 50)

    def test_twelve_knots_and_sixty_ties(self):
        chance = random.Random(102)
        web = web_of_size(chance, "abcdefghijkl", 60)
        patterns = [many(on("u")), then(on("*"), many(either(on("v"), back("u"))), ("at", "m")), many(then(on("u"), on("v"))),
                    many(back("v")), some_pattern(chance, 40)]
        keeper = Keeper(web, patterns)
        self.assert_keeps(keeper, web.rows(), patterns)
        for tie in web.rows()[1][:8]:
            self.assert_deed(keeper, patterns, "take_tie", *tie)
        self.assert_deed(keeper, patterns, "take_knot", "a")
        self.assert_deed(keeper, patterns, "put_mark", "b", "o")
        self.assert_ways(keeper, patterns)


class WhatIsKept(Case):
    def test_what_was_handed_in_is_a_copy(self):
        web = row_web()
        patterns = list(PATTERNS)
        keeper = Keeper(web, patterns)
        rows = web.rows()
        web.take_knot("b")
        web.put_tie("a", "u", "c")
        patterns.clear()
        self.assert_keeps(keeper, rows, PATTERNS)
        self.assertEqual(refused(keeper.pairs, 5), (NoSuch, 5))
        self.assert_deed(keeper, PATTERNS, "put_tie", "a", "u", "c")
        self.assert_ways(keeper, PATTERNS)

    def test_the_web_stays_as_it_was(self):
        web = row_web()
        rows = web.rows()
        keeper = Keeper(web, PATTERNS)
        keeper.take_knot("a")
        keeper.put_knot("e", ["m"])
        keeper.put_mark("b", "o")
        self.assertEqual(web.rows(), rows)

    def test_marks_that_were_handed_in(self):
        keeper = Keeper(Web(), [("at", "m")])
        marks = ["m"]
        keeper.put_knot("a", marks)
        marks.clear()
        self.assertEqual((keeper.rows(), keeper.pairs(0)), (((("a", ("m",)),), ()), [("a", "a")]))

    def test_what_was_told_is_the_askers_own(self):
        keeper = Keeper(row_web(), PATTERNS)
        rows = keeper.rows()
        keeper.pairs(0).clear()
        keeper.pairs(1).append("x")
        self.assert_keeps(keeper, rows, PATTERNS)
        told = keeper.put_tie("c", "u", "a")
        told[0][0].append("x")
        told.clear()
        held = keeper.pairs(1)
        kept = list(held)
        self.assert_deed(keeper, PATTERNS, "take_tie", "c", "u", "a")
        self.assertEqual(held, kept)

    def test_two_keepers_of_one_web(self):
        web = row_web()
        rows = web.rows()
        one, other = Keeper(web, PATTERNS), Keeper(web, PATTERNS[:2])
        self.assert_deed(one, PATTERNS, "take_knot", "b")
        self.assert_keeps(other, rows, PATTERNS[:2])
        self.assert_deed(other, PATTERNS[:2], "put_tie", "c", "u", "a")
        self.assertEqual(one.pairs(1), [("a", "a"), ("c", "c")])
        self.assertEqual(web.rows(), rows)


class Refusals(Case):
    def assert_refused(self, keeper, right, deed, *arguments):
        rows = keeper.rows()
        self.assertEqual(refused(deeds_of(keeper)[deed], *arguments), right)
        self.assert_keeps(keeper, rows, PATTERNS)

    def test_each_as_of_a_web(self):
        keeper = Keeper(row_web(), PATTERNS)
        self.assert_refused(keeper, (Twice, "a"), "put_knot", "a", ["n"])
        self.assert_refused(keeper, (NoKnot, "x"), "take_knot", "x")
        self.assert_refused(keeper, (NoKnot, "x"), "put_tie", "x", "u", "y")
        self.assert_refused(keeper, (NoKnot, "y"), "put_tie", "a", "u", "y")
        self.assert_refused(keeper, (Twice, "u"), "put_tie", "a", "u", "b")
        self.assert_refused(keeper, (NoKnot, "x"), "take_tie", "x", "u", "y")
        self.assert_refused(keeper, (NoKnot, "y"), "take_tie", "a", "u", "y")
        self.assert_refused(keeper, (NoTie, ("b", "u", "a")), "take_tie", "b", "u", "a")
        self.assert_refused(keeper, (NoKnot, "x"), "put_mark", "x", "m")
        self.assert_refused(keeper, (Twice, "m"), "put_mark", "a", "m")
        self.assert_refused(keeper, (NoKnot, "x"), "take_mark", "x", "m")
        self.assert_refused(keeper, (NoMark, "m"), "take_mark", "b", "m")
        for mark in "opqr":
            self.assert_deed(keeper, PATTERNS, "put_mark", "a", mark)
        self.assert_refused(keeper, (TooMany, "marks"), "put_mark", "a", "s")

    def test_too_many_knots_and_too_many_ties(self):
        names = [one + other for one in "abcde" for other in "abcdefgh"]
        keeper = Keeper(web_with({name: [] for name in names}, []), [on("u")])
        self.assertEqual(refused(keeper.put_knot, "z", []), (TooMany, "knots"))
        ties = [(one, "u", other) for one in names[:20] for other in names[:15]]
        keeper = Keeper(web_with({name: [] for name in names}, ties), [on("u")])
        self.assertEqual(refused(keeper.put_tie, "ea", "u", "eb"), (TooMany, "ties"))
        self.assertEqual(len(keeper.pairs(0)), 300)

    def test_no_such_pattern(self):
        keeper = Keeper(row_web(), PATTERNS)
        for number in (5, 6, 100, 10 ** 19, -1, -5, -6, -10 ** 19):
            self.assertEqual(refused(keeper.pairs, number), (NoSuch, number))
            self.assertEqual(refused(keeper.way, number, "x", "y"), (NoSuch, number))
            self.assertEqual(refused(keeper.way, number, "a", "b"), (NoSuch, number))
        self.assertEqual(refused(Keeper(row_web(), [STAY]).pairs, 1), (NoSuch, 1))

    def test_ways_in_their_order_of_refusals(self):
        keeper = Keeper(row_web(), PATTERNS)
        self.assertEqual(refused(keeper.way, 0, "x", "y"), (NoKnot, "x"))
        self.assertEqual(refused(keeper.way, 0, "x", "a"), (NoKnot, "x"))
        self.assertEqual(refused(keeper.way, 0, "a", "y"), (NoKnot, "y"))
        self.assertEqual(refused(keeper.way, 0, "b", "a"), (NoPair, "b", "a"))
        self.assertEqual(refused(keeper.way, 4, "a", "b"), (NoPair, "a", "b"))
        self.assertEqual(keeper.way(0, "a", "b"), ("a", (("on", "u", "b"),)))
        self.assertEqual(keeper.way(1, "a", "c"), ("a", (("on", "u", "b"), ("on", "v", "c"))))
        self.assertEqual(keeper.way(1, "b", "b"), ("b", ()))
        self.assert_ways(keeper, PATTERNS)

    def test_ways_behind_deeds(self):
        keeper = Keeper(row_web(), PATTERNS)
        keeper.put_tie("a", "w", "c")
        self.assertEqual(keeper.way(1, "a", "c"), ("a", (("on", "w", "c"),)))
        keeper.take_knot("c")
        self.assertEqual(refused(keeper.way, 1, "a", "c"), (NoKnot, "c"))
        keeper.put_knot("c", [])
        self.assertEqual(refused(keeper.way, 1, "a", "c"), (NoPair, "a", "c"))


if __name__ == "__main__":
    unittest.main()
