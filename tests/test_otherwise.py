import copy
import random
import unittest

from pathask.otherwise import alike, backwards, plainly
from pathask.patterns import is_pattern, leaves_in, parts_in
from pathask.ways import back_of, is_way
from pathask.webs import web_of
from pathask.within import shows
from plainly import (
    STAY, all_ways, back, either, fits_plainly, many, on, some_pattern, some_way, some_web, then, web_with)

AT, OFF = ("at", "m"), ("off", "n")
NOTHING, NO_STEPS = either(), then()


def ring_web():
    return web_with(
        {"a": ["m"], "b": ["n"], "c": ["m", "n"], "d": []},
        [("a", "u", "b"), ("b", "v", "c"), ("c", "u", "a"), ("c", "w", "c"), ("a", "v", "d"), ("d", "u", "d")])


def within_plainly(pattern):
    if pattern[0] == "many":
        return [pattern[1]]
    return list(pattern[1]) if pattern[0] in ("then", "either") else []


def parts_plainly(pattern):
    return [pattern] + [part for each in within_plainly(pattern) for part in parts_plainly(each)]


def leaves_plainly(pattern):
    return sorted([part[0] for part in parts_plainly(pattern) if part[0] in ("stay", "step", "at", "off")])


def needless_in(pattern):
    """What point 29 rules out, in its order, of each pattern in it."""
    found = []
    for part in parts_plainly(pattern):
        inner = within_plainly(part)
        sorts = [each[0] for each in inner]
        if part[0] in ("then", "either") and len(inner) == 1:
            found.append("of just one")
        if part[0] == "then" and "then" in sorts or part[0] == "either" and "either" in sorts:
            found.append("right within its like")
        if part[0] == "then" and STAY in inner:
            found.append("stay in a then")
        if part[0] == "either" and len(set(inner)) < len(inner):
            found.append("twice in an either")
        if part[0] in ("then", "many") and NOTHING in inner:
            found.append("either of none in a then or a many")
        if part[0] == "many" and sorts == ["many"]:
            found.append("many in a many")
        if part[0] == "many" and inner[0] in (STAY, NO_STEPS, NOTHING):
            found.append("many of nothing")
    return found


# Patterns in which there is nothing needless, of many sorts.
PLAIN = [
    STAY, on("u"), back("*"), AT, OFF, NOTHING, many(on("u")), then(on("u"), on("u")), either(on("u"), on("v")),
    either(STAY, on("u")), many(either(STAY, on("u"))), then(many(on("u")), AT, many(back("*"))),
    many(then(on("u"), either(AT, OFF))), either(then(on("u"), AT), many(OFF), STAY), then(AT, AT)]

# Of each needless thing that the point names one alone.
NEEDLESS = [
    then(on("u")), either(on("u")), then(on("u"), then(on("v"), AT)), either(on("u"), either(on("v"), AT)),
    then(then(), on("u"), on("v")), either(either(), on("u"), on("v")), then(on("u"), STAY, on("v")), then(STAY, STAY),
    either(on("u"), on("v"), on("u")), either(on("u"), on("u")), then(on("u"), either(), on("v")), many(either()),
    many(many(on("u"))), many(STAY), many(then())]


class Case(unittest.TestCase):
    def assert_fit_alike(self, one, other, ways, web):
        for way in ways:
            self.assertIs(fits_plainly(web, one, way), fits_plainly(web, other, way), (one, other, way))


class Backwards(Case):
    def assert_backwards(self, web, pattern, ways):
        kept = copy.deepcopy(pattern)
        turned = backwards(pattern)
        self.assertEqual(pattern, kept)
        self.assertIs(is_pattern(turned), True)
        self.assertEqual(leaves_plainly(turned), leaves_plainly(pattern))
        self.assertEqual(len(parts_plainly(turned)), len(parts_plainly(pattern)))
        told = [0, 0]
        for way in ways:
            right = fits_plainly(web, pattern, back_of(way))
            self.assertIs(fits_plainly(web, turned, way), right, (pattern, turned, way))
            told[right] += 1
        return told

    def test_each_sort(self):
        web = ring_web()
        ways = all_ways(web, 3)
        for pattern in PLAIN + NEEDLESS:
            self.assert_backwards(web, pattern, ways)
        for pattern in (on("u"), back("u"), on("*"), back("*"), AT, OFF, then(on("u"), on("v")), then(on("u"), AT),
                        then(AT, on("u")), then(on("u"), back("v"), OFF), many(then(on("u"), on("v"))),
                        either(then(on("u"), on("v")), back("w")), then(many(then(on("u"), on("v"))), back("*"))):
            told = self.assert_backwards(web, pattern, ways)
            self.assertGreater(min(told), 0, pattern)

    def test_by_chance(self):
        chance = random.Random(71)
        told = [0, 0]
        for number in range(200):
            web = some_web(chance, chance.randint(1, 3), chance.randint(1, 4))
            pattern = some_pattern(chance, chance.randint(1, 40))
            ways = [some_way(chance, web, chance.randint(0, 5)) for way in range(10)]
            counts = self.assert_backwards(web, pattern, ways)
            told = [told[0] + counts[0], told[1] + counts[1]]
        self.assertGreater(min(told), 100)

    def test_ten_within_one_another(self):
        pattern = then(on("u"), AT)
        for number in range(4):
            pattern = then(many(pattern), on("v"))
        self.assert_backwards(ring_web(), pattern, all_ways(ring_web(), 3))


class Plainly(Case):
    def assert_plain(self, pattern, ways=(), web=None):
        kept = copy.deepcopy(pattern)
        told = plainly(pattern)
        self.assertEqual(pattern, kept)
        self.assertIs(is_pattern(told), True)
        self.assertEqual(needless_in(told), [], (pattern, told))
        self.assertLessEqual(len(parts_plainly(told)), len(parts_plainly(pattern)))
        again = plainly(told)
        self.assertEqual(needless_in(again), [], (pattern, told, again))
        self.assertLessEqual(parts_in(again), parts_in(told))
        self.assert_fit_alike(pattern, told, ways, web)
        self.assert_fit_alike(pattern, again, ways, web)
        return told

    def test_what_is_plain_already(self):
        web = ring_web()
        for pattern in PLAIN:
            self.assertEqual(needless_in(pattern), [])
            self.assert_plain(pattern, all_ways(web, 3), web)

    def test_each_needless_thing_alone(self):
        web = ring_web()
        self.assertEqual(len({thing for pattern in NEEDLESS for thing in needless_in(pattern)}), 7)
        for pattern in NEEDLESS:
            self.assertNotEqual(needless_in(pattern), [])
            self.assert_plain(pattern, all_ways(web, 3), web)

    def test_each_needless_thing_within_others(self):
        web = ring_web()
        ways = all_ways(web, 2)
        for needless in NEEDLESS:
            for around in (
                    many, then, either, lambda part: then(on("u"), part), lambda part: then(part, AT, part),
                    lambda part: either(on("u"), part), lambda part: either(part, STAY, part),
                    lambda part: many(then(part, on("u"))), lambda part: then(many(part), either(part, on("v"))),
                    lambda part: either(then(part), either(many(many(part)))), lambda part: many(either(part, part))):
                self.assert_plain(around(needless), ways, web)

    def test_several_at_once(self):
        web = ring_web()
        ways = all_ways(web, 2)[::3]
        for one in NEEDLESS + PLAIN:
            for other in NEEDLESS:
                for pattern in (then(one, other), either(one, other), many(then(one, either(other)))):
                    self.assert_plain(pattern, ways, web)

    def test_what_comes_of_taking_one_thing_away(self):
        web = ring_web()
        for pattern in (
                many(then(many(on("u")))), many(either(many(on("u")))), many(then(then(), STAY)),
                then(either(then(on("u"), AT))), either(then(either(on("u"), on("v")))), either(then(on("u")), on("u")),
                either(many(STAY), STAY, then()),
                many(then(on("u"), either())), then(many(either()), on("u")), then(either(either()), on("u")),
                either(then(on("u"), either()), on("v")), many(either(either(), either())), then(then(then())),
                either(either(either())), many(many(many(many(on("u"))))), then(many(then(STAY)), many(STAY)),
                either(then(STAY, on("u")), then(on("u"), STAY), on("u")), either(either(on("u"), on("v")), on("v"))):
            self.assert_plain(pattern, all_ways(web, 3), web)

    def test_a_then_of_none_and_an_either_of_none(self):
        web = ring_web()
        for pattern in (then(), either(), either(then(), on("u")), either(on("u"), then(), then())):
            self.assert_plain(pattern, all_ways(web, 2), web)
        self.assertEqual(plainly(either()), either())
        for pattern in (then(on("u"), either()), then(either(), either()), either(either()),
                        then(many(on("u")), then(either()))):
            self.assertEqual(plainly(pattern), either())

    def test_by_chance(self):
        chance = random.Random(72)
        needless, fitting = 0, 0
        for number in range(400):
            web = some_web(chance, chance.randint(1, 3), chance.randint(1, 4), ("u",), ("m",))
            pattern = some_pattern(chance, chance.randint(1, 40), 10, ("u",), ("m",))
            ways = [some_way(chance, web, chance.randint(0, 5)) for way in range(6)]
            self.assert_plain(pattern, ways, web)
            needless += needless_in(pattern) != []
            fitting += any(fits_plainly(web, pattern, way) for way in ways)
        self.assertGreater(needless, 200)
        self.assertGreater(fitting, 100)

    def test_small_ones_are_alike_in_every_web(self):
        chance = random.Random(73)
        for number in range(200):
            pattern = some_pattern(chance, chance.randint(1, 12))
            if leaves_in(pattern) <= 6:
                self.assertEqual(alike(pattern, self.assert_plain(pattern))[0], "alike")


class Alike(Case):
    def assert_alike(self, one, other):
        kept = copy.deepcopy((one, other))
        told = alike(one, other)
        self.assertEqual((type(told), len(told), told[0]), (tuple, 3, "alike"), (one, other))
        self.assertEqual((type(told[1]), type(told[2])), (list, list))
        self.assertIs(shows(one, other, told[1]), True)
        self.assertIs(shows(other, one, told[2]), True)
        self.assertEqual((one, other), kept)

    def assert_unlike(self, one, other):
        told = alike(one, other)
        self.assertEqual((type(told), len(told), told[0]), (tuple, 3, "unlike"), (one, other))
        web = web_of(told[1])
        self.assertEqual(web.rows(), told[1])
        self.assertIs(is_way(web, told[2]), True)
        first, second = fits_plainly(web, one, told[2]), fits_plainly(web, other, told[2])
        self.assertNotEqual(first, second)
        return first

    def test_those_that_are(self):
        for one, other in [
                (STAY, then()), (on("u"), then(on("u"))), (many(on("u")), many(many(on("u")))),
                (STAY, either(AT, ("off", "m"))), (either(), then(on("u"), either())),
                (many(either(on("u"), on("v"))), many(then(many(on("u")), many(on("v"))))),
                (many(on("u")), either(many(then(on("u"), on("u"))), then(on("u"), many(then(on("u"), on("u")))))),
                (then(on("u"), many(then(on("v"), on("u")))), then(many(then(on("u"), on("v"))), on("u"))),
                (on("*"), either(on("*"), on("u"))), (either(on("u"), back("v")), either(back("v"), on("u")))]:
            self.assert_alike(one, other)
            self.assert_alike(other, one)

    def test_those_that_are_not_on_either_side(self):
        for one, other in [
                (on("u"), on("*")), (STAY, many(on("u"))), (AT, STAY), (either(), STAY), (then(AT, OFF), OFF),
                (many(on("*")), many(either(on("*"), back("*")))), (on("u"), either(on("u"), on("v"))),
                (many(then(on("u"), on("u"))), many(on("u")))]:
            self.assertIs(self.assert_unlike(one, other), False)
            self.assertIs(self.assert_unlike(other, one), True)
        for one, other in [(on("u"), on("v")), (AT, OFF), (on("u"), back("u")), (STAY, on("*"))]:
            self.assert_unlike(one, other)

    def test_backwards_twice(self):
        chance = random.Random(74)
        for number in range(100):
            pattern = some_pattern(chance, chance.randint(1, 10))
            if leaves_in(pattern) <= 6:
                self.assert_alike(backwards(backwards(pattern)), pattern)

    def test_what_was_told_is_the_askers_own(self):
        one, other = many(on("u")), many(many(on("u")))
        told = alike(one, other)
        told[1].clear()
        told[2].append("x")
        self.assert_alike(one, other)


if __name__ == "__main__":
    unittest.main()
