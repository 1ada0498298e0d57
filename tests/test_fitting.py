import copy
import random
import unittest

from pathask.fitting import fits
from pathask.patterns import is_pattern
from pathask.webs import web_of
from plainly import (
    ANY_ON, STAY, all_ways, back, either, fits_plainly, many, on, some_pattern, some_way, some_web, then, web_with)


def chain_web():
    return web_with(
        {"a": ["m"], "b": [], "c": ["m", "n"], "d": ["n"]},
        [("a", "u", "b"), ("b", "u", "c"), ("c", "v", "d"), ("d", "w", "d"), ("d", "u", "a")])


def by(knot, *steps):
    """A way told shortly: a step is its side's sign, word and knot, as >ub or <ua."""
    return (knot, tuple(({">": "on", "<": "back"}[step[0]], step[1], step[2]) for step in steps))


NONE = by("a")
ONE = by("a", ">ub")
TWO = by("a", ">ub", ">uc")
THREE = by("a", ">ub", ">uc", ">vd")
RING = by("d", ">wd", ">wd", "<wd")


class Case(unittest.TestCase):
    def setUp(self):
        self.web = chain_web()

    def assert_fits(self, pattern, *ways):
        for way in ways:
            self.assertIs(fits(self.web, pattern, way), True, (pattern, way))

    def assert_none(self, pattern, *ways):
        for way in ways:
            self.assertIs(fits(self.web, pattern, way), False, (pattern, way))


class Leaves(Case):
    def test_stay(self):
        self.assert_fits(STAY, by("a"), by("b"), by("d"))
        self.assert_none(STAY, ONE, TWO, RING)

    def test_a_step(self):
        self.assert_fits(on("u"), ONE, by("d", ">ua"))
        self.assert_fits(back("u"), by("b", "<ua"))
        self.assert_none(on("u"), NONE, TWO, by("b", "<ua"), by("c", ">vd"))
        self.assert_none(back("u"), ONE, NONE)
        self.assert_none(on("v"), ONE)

    def test_a_step_of_any_word(self):
        self.assert_fits(on("*"), ONE, by("c", ">vd"), by("d", ">wd"))
        self.assert_none(on("*"), NONE, TWO, by("b", "<ua"), by("d", "<wd"))
        self.assert_fits(back("*"), by("b", "<ua"), by("d", "<wd"), by("d", "<vc"))
        self.assert_none(back("*"), ONE, by("d", ">wd"))

    def test_at_and_off(self):
        self.assert_fits(("at", "m"), by("a"), by("c"))
        self.assert_none(("at", "m"), by("b"), by("d"))
        self.assert_fits(("off", "m"), by("b"), by("d"))
        self.assert_none(("off", "m"), by("a"), by("c"))
        self.assert_none(("at", "never"), by("a"), by("b"))
        self.assert_fits(("off", "never"), by("a"), by("b"))
        for sort in ("at", "off"):
            self.assert_none((sort, "m"), ONE, TWO, by("b", "<ua"))


class Joints(Case):
    def test_then(self):
        self.assert_fits(then(on("u"), on("u")), TWO)
        self.assert_none(then(on("u"), on("u")), NONE, ONE, THREE)
        self.assert_fits(then(on("u"), on("u"), on("v")), THREE)
        self.assert_none(then(on("v"), on("u"), on("u")), THREE)
        self.assert_fits(then(STAY, on("u"), STAY, STAY), ONE)
        self.assert_fits(then(on("u")), ONE)
        self.assert_none(then(on("u")), NONE, TWO)

    def test_then_of_none(self):
        self.assert_fits(then(), by("a"), by("b"))
        self.assert_none(then(), ONE, TWO)
        self.assert_fits(then(then(), on("u"), then()), ONE)

    def test_either(self):
        self.assert_fits(either(on("u"), on("v")), ONE, by("c", ">vd"))
        self.assert_none(either(on("u"), on("v")), NONE, TWO, by("d", ">wd"))
        self.assert_fits(either(STAY, then(on("u"), on("u"))), NONE, TWO)
        self.assert_none(either(STAY, then(on("u"), on("u"))), ONE)
        self.assert_fits(either(on("u"), on("u")), ONE)

    def test_either_of_none(self):
        self.assert_none(either(), NONE, ONE, TWO, by("b"))
        self.assert_none(then(on("u"), either()), ONE)
        self.assert_none(then(either(), on("u")), ONE)
        self.assert_fits(either(either(), on("u")), ONE)
        self.assert_fits(many(either()), NONE)
        self.assert_none(many(either()), ONE)

    def test_many_goes_none_one_and_several_times(self):
        self.assert_fits(many(on("u")), NONE, ONE, TWO, by("b"))
        self.assert_none(many(on("u")), THREE, by("b", "<ua"))
        self.assert_fits(many(on("*")), NONE, ONE, TWO, THREE)
        self.assert_fits(many(then(on("w"), back("w"))), by("d"), by("d", ">wd", "<wd"), by("d", *[">wd", "<wd"] * 9))
        self.assert_none(many(then(on("w"), back("w"))), by("d", ">wd"), by("d", "<wd", ">wd"), RING)

    def test_many_within_a_many(self):
        for pattern in (many(many(on("u"))), many(many(many(on("u")))), many(then(many(on("u")), many(on("u"))))):
            self.assert_fits(pattern, NONE, ONE, TWO)
            self.assert_none(pattern, THREE, by("b", "<ua"))
        pattern = many(then(many(on("u")), on("v")))
        self.assert_fits(pattern, NONE, THREE, by("c", ">vd"), by("c", ">vd", ">ua", ">ub", ">uc", ">vd"))
        self.assert_none(pattern, ONE, TWO, by("c", ">vd", ">ua"))

    def test_many_of_what_has_no_steps(self):
        for within in (STAY, then(), many(STAY), ("at", "m"), ("off", "m"), then(("at", "m"), ("at", "n"))):
            self.assert_fits(many(within), by("a"), by("b"), by("c"))
            self.assert_none(many(within), ONE, TWO)
            self.assert_fits(then(on("u"), many(within), on("u")), TWO)

    def test_many_with_a_mark_each_time(self):
        self.assert_fits(many(then(on("u"), either(("off", "m"), ("at", "n")))), TWO)
        self.assert_none(many(then(on("u"), ("off", "m"))), TWO)

    def test_either_shares_no_going_round(self):
        pattern = either(many(on("u")), many(back("u")))
        self.assert_fits(pattern, NONE, ONE, by("b", "<ua"), by("c", "<ub", "<ua"))
        self.assert_none(pattern, by("a", ">ub", "<ua"), by("b", "<ua", ">ub"))
        pattern = then(many(on("w")), many(back("w")))
        self.assert_fits(pattern, by("d", ">wd", ">wd", "<wd"), by("d", "<wd"), by("d", ">wd"))
        self.assert_none(pattern, by("d", "<wd", ">wd"))
        pattern = either(then(on("u"), many(on("v"))), then(many(on("w")), on("u")))
        self.assert_none(pattern, by("d", ">wd"), by("c", ">vd"), by("d", ">wd", ">ua", ">ub"))


class Marks(Case):
    def test_at_and_off_at_the_begin_in_the_middle_and_at_the_end(self):
        for place, knot in enumerate("abc"):
            for mark in "mn":
                for sort in ("at", "off"):
                    within = [on("u"), on("u")]
                    within.insert(place, (sort, mark))
                    has = mark in self.web.marks(knot)
                    told = has if sort == "at" else not has
                    self.assertIs(fits(self.web, then(*within), TWO), told, (knot, sort, mark))

    def test_several_at_one_knot(self):
        self.assert_fits(then(on("u"), on("u"), ("at", "m"), ("at", "n")), TWO)
        self.assert_none(then(on("u"), on("u"), ("at", "m"), ("off", "n")), TWO)
        self.assert_none(then(("at", "m"), ("off", "m")), by("a"), by("b"))

    def test_the_knot_behind_a_step_back(self):
        self.assert_fits(then(back("u"), ("at", "m")), by("b", "<ua"))
        self.assert_none(then(back("u"), ("off", "m")), by("b", "<ua"))
        self.assert_none(then(back("u"), ("at", "m")), by("c", "<ub"))

    def test_marks_as_they_are_when_asked(self):
        pattern = then(on("u"), ("at", "new"))
        self.assert_none(pattern, ONE)
        self.web.put_mark("b", "new")
        self.assert_fits(pattern, ONE)
        self.web.take_mark("b", "new")
        self.assert_none(pattern, ONE)


class AgainstThePlainAnswer(Case):
    def test_patterns_by_chance_and_all_short_ways(self):
        chance = random.Random(13)
        told = [0, 0]
        for number in range(500):
            web = some_web(chance, chance.randint(1, 3), chance.randint(1, 4))
            pattern = some_pattern(chance, chance.randint(1, 14), chance.randint(1, 10))
            self.assertIs(is_pattern(pattern), True)
            for way in all_ways(web, 3)[:150]:
                right = fits_plainly(web, pattern, way)
                told[right] += 1
                self.assertIs(fits(web, pattern, way), right, (web.rows(), pattern, way))
        self.assertGreater(min(told), 1000)

    def test_great_patterns_and_longer_ways(self):
        chance = random.Random(14)
        told = [0, 0]
        for number in range(400):
            web = some_web(chance, 3, 5, words=("u",), marks=("m",))
            within = [some_pattern(chance, 4, 4, ("u",), ("m",)) for number in range(chance.randint(1, 6))]
            pattern = many(either(*within)) if chance.random() < 0.5 else then(*[many(part) for part in within])
            way = some_way(chance, web, chance.randint(4, 12))
            right = fits_plainly(web, pattern, way)
            told[right] += 1
            self.assertIs(fits(web, pattern, way), right, (web.rows(), pattern, way))
        self.assertGreater(min(told), 50)


class LongAndGreat(Case):
    def test_sixty_steps_and_manies_within_one_another(self):
        steps = [">wd", "<wd", ">wd"] * 20
        way, short = by("d", *steps), by("d", *steps[:59])
        manies = on("w")
        for number in range(9):
            manies = many(manies)
        self.assert_none(manies, way)
        self.assert_fits(manies, by("d", *[">wd"] * 60))
        mixed = either(on("w"), back("w"))
        for number in range(8):
            mixed = many(mixed)
        self.assert_fits(mixed, way, short)
        pattern = on("w")
        for number in range(4):
            pattern = many(then(pattern, many(back("w")), many(pattern)))
        self.assertIs(is_pattern(pattern), False)
        self.assert_fits(pattern, way)
        self.assert_none(then(pattern, on("u")), way)

    def test_many_small_manies_in_a_row(self):
        row = [many(either(on("w"), back("w"))) for number in range(9)]
        way = by("d", *[">wd", "<wd"] * 30)
        self.assert_fits(then(*row), way)
        self.assert_none(then(*row, on("u")), way)
        self.assert_none(many(then(*row, on("u"))), way)
        self.assert_fits(many(then(*row)), way)
        self.assertIs(is_pattern(then(*row, on("u"))), True)

    def test_the_deepest_going_round(self):
        pattern = either(on("w"), then())
        for number in range(4):
            pattern = many(either(then(pattern, back("w")), on("w")))
        self.assertIs(is_pattern(pattern), False)
        for length in range(55, 61):
            way = by("d", *[">wd", "<wd", ">wd"] * 20)
            way = (way[0], way[1][:length])
            self.assertIs(fits(self.web, pattern, way), fits_plainly(self.web, pattern, way))

    def test_a_way_longer_than_sixty_steps(self):
        way = by("d", *[">wd", "<wd"] * 500)
        self.assert_fits(many(then(on("w"), many(STAY), back("w"))), way)
        self.assert_none(many(then(on("w"), on("w"))), way)

    def test_a_pattern_of_more_than_forty(self):
        self.assert_fits(then(*[on("w")] * 60), by("d", *[">wd"] * 60))
        self.assert_none(then(*[on("w")] * 61), by("d", *[">wd"] * 60))
        self.assert_fits(
            either(*[then(*[on("w")] * count) for count in range(300)]), by("d"), by("d", *[">wd"] * 60))
        self.assert_none(either(*[then(*[on("w")] * count) for count in range(0, 300, 7)]), by("d", *[">wd"] * 60))
        pattern = then(*[either(ANY_ON, back("*"), STAY)] * 5000)
        self.assert_fits(pattern, by("d"), RING, by("d", *[">wd", "<wd"] * 30))

    def test_a_pattern_far_deeper_than_ten(self):
        pattern = either(on("w"), back("w"))
        for number in range(2000):
            pattern = [many, then, either][number % 3](pattern)
        self.assert_fits(pattern, by("d"), RING)
        self.assert_none(pattern, ONE)


class NothingIsChanged(Case):
    def test_the_web_stays_as_it_was(self):
        before = self.web.rows()
        for pattern in (many(either(on("u"), back("*"))), then(("at", "m"), many(on("*")))):
            kept = copy.deepcopy((pattern, THREE))
            fits(self.web, pattern, THREE)
            self.assertEqual((pattern, THREE), kept)
        self.assertEqual(self.web.rows(), before)

    def test_nothing_hangs_on_what_was_asked_before(self):
        pattern = then(many(on("u")), ("at", "n"))
        other = web_of(((("a", ()), ("b", ()), ("c", ())), (("a", "u", "b"), ("b", "u", "c"))))
        for number in range(3):
            self.assertIs(fits(self.web, pattern, TWO), True)
            self.assertIs(fits(other, pattern, TWO), False)


if __name__ == "__main__":
    unittest.main()
