import copy
import random
import unittest

from pathask.counting import counted
from pathask.errors import NoKnot, NoWay
from pathask.fitting import fits
from pathask.patterns import leaves_in
from pathask.placing import place_of, way_at
from pathask.ways import end_of, is_way
from plainly import (
    STAY, all_ways, back, either, end_plainly, many, on, refused, some_pattern, some_questions, some_way, some_web, then,
    twelve_knots, ways_between, web_with)

ANY_WAY = many(either(on("*"), back("*")))


def row_web():
    return web_with(
        {"a": ["m"], "b": [], "c": ["m", "n"]},
        [("a", "u", "b"), ("a", "v", "b"), ("b", "u", "c"), ("c", "u", "a"), ("b", "v", "b")])


class WayAt(unittest.TestCase):
    def test_in_order(self):
        web = row_web()
        told = [way_at(web, ANY_WAY, "a", "b", 2, k) for k in range(4)]
        self.assertEqual(told, [
            ("a", (("back", "u", "c"), ("back", "u", "b"))),
            ("a", (("on", "u", "b"), ("back", "v", "b"))),
            ("a", (("on", "u", "b"), ("on", "v", "b"))),
            ("a", (("on", "v", "b"), ("back", "v", "b")))])
        self.assertEqual(way_at(web, ANY_WAY, "a", "b", 2, 4), ("a", (("on", "v", "b"), ("on", "v", "b"))))
        self.assertEqual(refused(way_at, web, ANY_WAY, "a", "b", 2, 5), (NoWay, 5))

    def test_the_side_then_the_word_then_the_knot(self):
        web = web_with({"a": [], "b": [], "c": []}, [
            ("a", "u", "b"), ("a", "u", "c"), ("a", "uu", "a"), ("a", "v", "b"), ("b", "u", "a"), ("c", "a", "a")])
        pattern = then(either(on("*"), back("*")), many(either(on("*"), back("*"))))
        for other in "abc":
            right = ways_between(web, pattern, "a", other, 2)
            self.assertEqual([way_at(web, pattern, "a", other, 2, k) for k in range(len(right))], right)

    def test_no_such_way_bears_how_many_there_are(self):
        web = row_web()
        for k in (5, 6, 100, 10 ** 19, -1, -2, -5, -10 ** 19):
            self.assertEqual(refused(way_at, web, ANY_WAY, "a", "b", 2, k), (NoWay, 5))
        for k in (0, 1, -1):
            self.assertEqual(refused(way_at, web, either(), "a", "b", 2, k), (NoWay, 0))
            self.assertEqual(refused(way_at, web, STAY, "a", "b", 0, k), (NoWay, 0))
            self.assertEqual(refused(way_at, web, on("u"), "a", "b", 2, k), (NoWay, 0))
        for k in (1, -1):
            self.assertEqual(refused(way_at, web, STAY, "a", "a", 0, k), (NoWay, 1))

    def test_length_nought(self):
        for pattern in (STAY, then(), ("at", "m"), ("off", "n"), ANY_WAY):
            self.assertEqual(way_at(row_web(), pattern, "a", "a", 0, 0), ("a", ()))

    def test_no_knot_ahead_of_no_way(self):
        web = row_web()
        for k in (0, -1, 10 ** 9):
            self.assertEqual(refused(way_at, web, either(), "x", "y", 1, k), (NoKnot, "x"))
            self.assertEqual(refused(way_at, web, either(), "x", "a", 1, k), (NoKnot, "x"))
            self.assertEqual(refused(way_at, web, either(), "a", "y", 1, k), (NoKnot, "y"))

    def test_a_way_that_fits_many_times_over_is_told_once(self):
        web = row_web()
        pattern = either(on("*"), on("u"), many(on("u")), then(STAY, on("v")))
        self.assertEqual(way_at(web, pattern, "a", "b", 1, 0), ("a", (("on", "u", "b"),)))
        self.assertEqual(way_at(web, pattern, "a", "b", 1, 1), ("a", (("on", "v", "b"),)))
        self.assertEqual(refused(way_at, web, pattern, "a", "b", 1, 2), (NoWay, 2))

    def test_against_all_ways_one_by_one(self):
        told = 0
        for web, pattern, one, other, length in some_questions(random.Random(51), 120):
            kept = copy.deepcopy((web.rows(), pattern))
            right = ways_between(web, pattern, one, other, length)
            for k, way in enumerate(right):
                self.assertEqual(way_at(web, pattern, one, other, length, k), way)
                self.assertEqual(place_of(web, pattern, way), k)
            self.assertEqual(refused(way_at, web, pattern, one, other, length, len(right)), (NoWay, len(right)))
            self.assertEqual((web.rows(), pattern), kept)
            told += len(right)
        self.assertGreater(told, 400)


class FarOn(unittest.TestCase):
    def assert_around(self, web, pattern, one, other, k):
        """The k-th way of forty steps, with those beside it, is a way that fits, and its place is k."""
        ways = [way_at(web, pattern, one, other, 40, number) for number in (k - 1, k, k + 1)]
        self.assertEqual(ways, sorted(ways, key=lambda way: way[1]))
        self.assertEqual(len(set(ways)), 3)
        for way, number in zip(ways, (k - 1, k, k + 1)):
            self.assertTrue(is_way(web, way) and fits(web, pattern, way))
            self.assertEqual((way[0], end_of(way), len(way[1])), (one, other, 40))
            self.assertEqual(place_of(web, pattern, way), number)

    def test_great_numbers_among_ways_of_forty_steps(self):
        web = twelve_knots(random.Random(52))
        for pattern in (ANY_WAY, then(many(on("*")), on("u"), *[on("*")] * 6),
                        many(then(either(on("*"), back("u")), either(("at", "m"), ("off", "n"))))):
            self.assertLessEqual(leaves_in(pattern), 8)
            other = max(web.knots(), key=lambda knot: counted(web, pattern, "a", knot, 40))
            many_ways = counted(web, pattern, "a", other, 40)
            self.assertGreater(many_ways, 10 ** 12)
            for k in (1, many_ways // 3, many_ways - 2):
                self.assert_around(web, pattern, "a", other, k)
            self.assertEqual(refused(way_at, web, pattern, "a", other, 40, many_ways), (NoWay, many_ways))
            self.assertEqual(refused(way_at, web, pattern, "a", other, 40, -1), (NoWay, many_ways))


class PlaceOf(unittest.TestCase):
    def test_of_ways_that_fit_and_ways_that_do_not(self):
        web = row_web()
        self.assertEqual(place_of(web, ANY_WAY, ("a", (("on", "v", "b"), ("on", "v", "b")))), 4)
        self.assertEqual(place_of(web, on("v"), ("a", (("on", "v", "b"),))), 0)
        self.assertEqual(place_of(web, on("u"), ("a", (("on", "v", "b"),))), 1)
        self.assertEqual(place_of(web, on("v"), ("a", (("on", "u", "b"),))), 0)
        self.assertEqual(place_of(web, either(), ("a", (("on", "v", "b"),))), 0)
        self.assertEqual(place_of(web, then(on("u"), on("v")), ("a", (("on", "v", "b"), ("back", "v", "b")))), 1)

    def test_of_a_way_without_steps(self):
        for pattern in (STAY, either(), on("u"), ("at", "m"), ("off", "m"), ANY_WAY):
            for knot in "abc":
                self.assertEqual(place_of(row_web(), pattern, (knot, ())), 0)

    def test_of_a_way_of_one_length_only(self):
        web = row_web()
        way = ("a", (("on", "v", "b"),))
        self.assertEqual(place_of(web, either(on("u"), then(on("*"), on("*"))), way), 1)

    def test_only_ways_to_its_own_end_go_ahead(self):
        web = web_with({"a": [], "b": [], "c": []}, [("a", "u", "b"), ("a", "u", "c"), ("a", "v", "c")])
        self.assertEqual(place_of(web, on("*"), ("a", (("on", "u", "c"),))), 0)
        self.assertEqual(place_of(web, on("*"), ("a", (("on", "v", "c"),))), 1)

    def test_against_all_ways_one_by_one(self):
        chance = random.Random(53)
        some = 0
        for number in range(120):
            web = some_web(chance, chance.randint(1, 3), chance.randint(1, 4))
            pattern = many(some_pattern(chance, chance.randint(1, 10)))
            kept = copy.deepcopy((web.rows(), pattern))
            for way in chance.sample(all_ways(web, 3), min(20, len(all_ways(web, 3)))):
                ahead = [other for other in ways_between(web, pattern, way[0], end_plainly(way), len(way[1]))
                         if other[1] < way[1]]
                self.assertEqual(place_of(web, pattern, way), len(ahead), (web.rows(), pattern, way))
                some += len(ahead) > 0
            self.assertEqual((web.rows(), pattern), kept)
        self.assertGreater(some, 100)

    def test_far_on_of_ways_that_do_not_fit(self):
        chance = random.Random(54)
        web = twelve_knots(chance)
        pattern = many(then(either(on("*"), back("u")), either(("at", "m"), ("off", "n"))))
        for number in range(20):
            way = some_way(chance, web, 40)
            place = place_of(web, pattern, way)
            ways = counted(web, pattern, way[0], end_of(way), 40)
            self.assertTrue(0 <= place <= ways)
            if place > 0:
                self.assertLess(way_at(web, pattern, way[0], end_of(way), 40, place - 1)[1], way[1])
            if place < ways:
                self.assertGreaterEqual(way_at(web, pattern, way[0], end_of(way), 40, place)[1], way[1])


if __name__ == "__main__":
    unittest.main()
