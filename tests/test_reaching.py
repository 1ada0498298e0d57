import copy
import random
import unittest

from pathask.errors import NoKnot, PathError
from pathask.machines import goes, machine_of
from pathask.meeting import met, turned
from pathask.patterns import is_pattern, parts_in
from pathask.reaching import is_closed, pairs, reached, shortest
from pathask.ways import end_of, is_way
from pathask.webs import Web
from plainly import (
    STAY, all_ways, back, either, end_plainly, fewest_steps, fits_plainly, led_plainly, many, on, some_machine,
    some_pattern, some_web, then, web_with)

ALL_ON = machine_of(many(on("*")))


def row_web():
    return web_with(
        {"a": ["m"], "b": [], "c": ["m"], "d": ["n"]},
        [("a", "u", "b"), ("b", "u", "c"), ("b", "v", "d"), ("a", "w", "c"), ("d", "w", "d")])


def great_web():
    names = [chr(97 + number // 26) + chr(97 + number % 26) for number in range(40)]
    web = web_with({name: ["m"] if number % 3 else ["n", "o"] for number, name in enumerate(names)}, [])
    for number in range(300):
        web.put_tie(names[number % 40], "uvwx"[number // 75], names[(number * 7 + number // 40 + 1) % 40])
    return web


def is_closed_plainly(web, machine, stands):
    rows = web.rows()
    knots = [name for name, marks in rows[0]]
    for place in stands:
        if place[0] not in knots or not 0 <= place[1] < machine[0]:
            return False
        without, stepped = led_plainly(rows, machine, place)
        if not all(led in stands for led in without + stepped):
            return False
    return True


class Case(unittest.TestCase):
    def assert_no_knot(self, name, ask, *arguments):
        with self.assertRaises(PathError) as taken:
            ask(*arguments)
        self.assertIs(type(taken.exception), NoKnot)
        self.assertEqual(taken.exception.name, name)


class Reached(Case):
    def test_who_is_reached(self):
        web = row_web()
        self.assertEqual(reached(web, machine_of(on("u")), "a"), ["b"])
        self.assertEqual(reached(web, machine_of(on("*")), "a"), ["b", "c"])
        self.assertEqual(reached(web, machine_of(back("*")), "c"), ["a", "b"])
        self.assertEqual(reached(web, machine_of(on("v")), "a"), [])
        self.assertEqual(reached(web, machine_of(then(on("u"), on("*"))), "a"), ["c", "d"])
        self.assertEqual(reached(web, machine_of(then(many(on("*")), ("at", "m"))), "a"), ["a", "c"])
        self.assertEqual(reached(web, machine_of(then(many(on("*")), ("off", "m"))), "a"), ["b", "d"])
        self.assertEqual(reached(web, machine_of(then(on("*"), ("off", "m"), on("*"))), "a"), ["c", "d"])

    def test_a_knot_reaches_itself_by_no_steps(self):
        web = row_web()
        for knot in "abcd":
            self.assertEqual(reached(web, machine_of(STAY), knot), [knot])
            self.assertEqual(reached(web, (1, 0, (0,), ()), knot), [knot])
            self.assertIn(knot, reached(web, ALL_ON, knot))
        self.assertEqual(reached(web, machine_of(("at", "m")), "a"), ["a"])
        self.assertEqual(reached(web, machine_of(("at", "m")), "b"), [])
        self.assertEqual(reached(web, (1, 0, (), ()), "a"), [])

    def test_all_pairs(self):
        web = row_web()
        self.assertEqual(pairs(web, machine_of(on("u"))), [("a", "b"), ("b", "c")])
        self.assertEqual(pairs(web, machine_of(back("u"))), [("b", "a"), ("c", "b")])
        self.assertEqual(pairs(web, machine_of(STAY)), [(knot, knot) for knot in "abcd"])
        self.assertEqual(pairs(web, machine_of(either())), [])
        self.assertEqual(
            pairs(web, ALL_ON),
            [("a", "a"), ("a", "b"), ("a", "c"), ("a", "d"), ("b", "b"), ("b", "c"), ("b", "d"), ("c", "c"), ("d", "d")])
        self.assertEqual(pairs(Web(), ALL_ON), [])

    def test_no_knot(self):
        self.assert_no_knot("x", reached, row_web(), ALL_ON, "x")
        self.assert_no_knot("m", reached, row_web(), (1, 0, (), ()), "m")
        self.assert_no_knot("a", reached, Web(), ALL_ON, "a")

    def test_against_plain_going(self):
        chance = random.Random(36)
        count = 0
        for number in range(200):
            web = some_web(chance, chance.randint(1, 5), chance.randint(1, 8))
            machine = some_machine(chance, chance.randint(1, 6), chance.randint(1, 14))
            told = []
            for knot in web.knots():
                fewest = fewest_steps(web, machine, knot)
                right = sorted({place[0] for place in fewest if place[1] in machine[2]})
                self.assertEqual(reached(web, machine, knot), right)
                told += [(knot, other) for other in right]
            self.assertEqual(pairs(web, machine), told)
            count += len(told)
        self.assertGreater(count, 300)

    def test_a_pair_is_told_just_when_some_way_fits(self):
        chance = random.Random(37)
        for number in range(150):
            web = some_web(chance, chance.randint(1, 3), chance.randint(1, 4))
            pattern = some_pattern(chance, chance.randint(1, 8), 5)
            found = {(way[0], end_plainly(way)) for way in all_ways(web, 4)[:300] if fits_plainly(web, pattern, way)}
            told = pairs(web, machine_of(pattern))
            self.assertLessEqual(found, set(told))
            for one, other in told:
                way = shortest(web, machine_of(pattern), one, other)[1]
                self.assertIs(fits_plainly(web, pattern, way), True)
                self.assertEqual((way[0], end_plainly(way)), (one, other))

    def test_lists_of_the_askers_own(self):
        web = row_web()
        rows = web.rows()
        for ask in (lambda: reached(web, ALL_ON, "a"), lambda: pairs(web, ALL_ON)):
            told = ask()
            before = list(told)
            self.assertIs(type(told), list)
            told.append(told[0])
            told[0] = "changed"
            self.assertEqual(ask(), before)
            ask().clear()
            self.assertEqual(ask(), before)
        self.assertEqual([type(pair) for pair in pairs(web, ALL_ON)], [tuple] * 9)
        self.assertEqual(web.rows(), rows)
        told = pairs(web, ALL_ON)
        before = list(told)
        web.take_knot("b")
        self.assertEqual(told, before)

    def test_a_great_web_and_a_great_machine(self):
        web = great_web()
        pattern = many(then(*[either(on("u"), back("*"))] * 12, ("at", "m")))
        machine = machine_of(pattern)
        both = met(machine, turned(machine_of(then(*[many(on("*"))] * 19))))
        for asked in (machine, both, machine_of(then(*[on("*")] * 39))):
            told = pairs(web, asked)
            for knot in web.knots()[::9]:
                self.assertEqual(reached(web, asked, knot), [other for one, other in told if one == knot])


class Closed(Case):
    MACHINE = (4, 0, (3,), ((0, ("at", "m"), 1), (0, on("u"), 0), (1, STAY, 2), (2, back("*"), 3), (2, ("off", "m"), 3)))

    def test_a_closed_list_and_one_that_lacks_a_stand(self):
        web = row_web()
        closed = [("a", 0), ("a", 1), ("a", 2), ("b", 0), ("c", 0), ("c", 1), ("c", 2), ("a", 3), ("b", 3)]
        self.assertIs(is_closed(web, self.MACHINE, closed), True)
        for place in closed:
            rest = [other for other in closed if other != place]
            self.assertIs(is_closed(web, self.MACHINE, rest), place == ("a", 0), place)

    def test_moves_of_each_leaf(self):
        web = row_web()
        for leaf, knot, led in ((STAY, "a", ["a"]), (("at", "m"), "a", ["a"]), (("at", "m"), "b", []),
                                (("off", "m"), "b", ["b"]), (("off", "m"), "a", []), (on("u"), "a", ["b"]),
                                (on("*"), "a", ["b", "c"]), (back("*"), "c", ["a", "b"]), (back("u"), "a", []),
                                (on("w"), "d", ["d"]), (back("w"), "d", ["d"])):
            machine = (2, 0, (), ((0, leaf, 1),))
            self.assertIs(is_closed(web, machine, [(knot, 0)]), not led, (leaf, knot))
            whole = [(knot, 0)] + [(other, 1) for other in led]
            self.assertIs(is_closed(web, machine, whole), True)
            for place in range(1, len(whole)):
                self.assertIs(is_closed(web, machine, whole[:place] + whole[place + 1:]), False)

    def test_the_list_without_tuples(self):
        self.assertIs(is_closed(row_web(), self.MACHINE, []), True)
        self.assertIs(is_closed(Web(), self.MACHINE, []), True)

    def test_a_knot_or_a_stand_that_is_none(self):
        web = row_web()
        idle = (2, 0, (), ())
        self.assertIs(is_closed(web, idle, [("a", 0), ("d", 1)]), True)
        for place in (("x", 0), ("m", 0), ("", 0), ("a", 2), ("a", -1), ("a", 10 ** 19), ("x", -1)):
            self.assertIs(is_closed(web, idle, [place]), False)
            self.assertIs(is_closed(web, idle, [("a", 0), place]), False)
            self.assertIs(is_closed(web, idle, [place, ("a", 0)]), False)
        self.assertIs(is_closed(Web(), idle, [("a", 0)]), False)

    def test_some_twice(self):
        web = row_web()
        machine = (2, 0, (), ((0, STAY, 1),))
        self.assertIs(is_closed(web, machine, [("a", 0), ("a", 1), ("a", 0), ("a", 1), ("a", 1)]), True)
        self.assertIs(is_closed(web, machine, [("a", 0), ("a", 0), ("a", 0)]), False)

    def test_against_the_plain_answer(self):
        chance = random.Random(38)
        told = [0, 0]
        for number in range(600):
            web = some_web(chance, chance.randint(1, 4), chance.randint(0, 5))
            machine = some_machine(chance, chance.randint(1, 4), chance.randint(0, 6))
            places = [(knot, stand) for knot in web.knots() for stand in range(machine[0])]
            stands = [place for place in places if chance.random() < 0.3] + chance.sample(places, 1)
            if chance.random() < 0.5:
                for place in list(stands):
                    stands += [led for led in fewest_steps(web, (machine[0], place[1]) + machine[2:], place[0])]
            if chance.random() < 0.1:
                stands.append(chance.choice([("z", 0), ("a", machine[0]), ("a", -1)]))
            chance.shuffle(stands)
            kept = copy.deepcopy((web.rows(), machine, stands))
            right = is_closed_plainly(web, machine, stands)
            told[right] += 1
            self.assertIs(is_closed(web, machine, stands), right)
            self.assertEqual((web.rows(), machine, stands), kept)
        self.assertGreater(min(told), 100)


class Shortest(Case):
    def assert_shortest(self, web, machine, one, other, length):
        """A way of that length, or None for none at all."""
        kept = copy.deepcopy((web.rows(), machine))
        told = shortest(web, machine, one, other)
        self.assertEqual((web.rows(), machine), kept)
        self.assertEqual([type(told), len(told)], [tuple, 2])
        if length is not None:
            self.assertEqual(told[0], "way", (web.rows(), machine, one, other))
            self.assertIs(is_way(web, told[1]), True)
            self.assertIs(goes(web, machine, told[1]), True)
            self.assertEqual((told[1][0], end_of(told[1]), len(told[1][1])), (one, other, length))
            return
        self.assertEqual(told[0], "none", (web.rows(), machine, one, other))
        self.assertIs(type(told[1]), list)
        self.assertEqual({type(place) for place in told[1]}, {tuple})
        self.assertEqual(len(set(told[1])), len(told[1]))
        self.assertIs(is_closed(web, machine, told[1]), True)
        self.assertIs(is_closed_plainly(web, machine, told[1]), True)
        self.assertIn((one, machine[1]), told[1])
        self.assertFalse([end for end in machine[2] if (other, end) in told[1]])

    def test_ways_of_the_fewest_steps(self):
        web = row_web()
        self.assert_shortest(web, ALL_ON, "a", "a", 0)
        self.assert_shortest(web, ALL_ON, "a", "b", 1)
        self.assert_shortest(web, ALL_ON, "a", "c", 1)
        self.assert_shortest(web, ALL_ON, "a", "d", 2)
        self.assert_shortest(web, machine_of(many(on("u"))), "a", "c", 2)
        self.assert_shortest(web, machine_of(then(many(on("*")), on("w"))), "a", "d", 3)
        self.assert_shortest(web, machine_of(many(either(on("*"), back("*")))), "c", "d", 2)
        self.assert_shortest(web, machine_of(then(on("w"), on("w"), on("w"))), "d", "d", 3)
        self.assertEqual(
            shortest(web, machine_of(many(on("u"))), "a", "c"), ("way", ("a", (("on", "u", "b"), ("on", "u", "c")))))
        self.assertEqual(shortest(web, machine_of(back("v")), "d", "b"), ("way", ("d", (("back", "v", "b"),))))
        self.assertEqual(shortest(web, machine_of(STAY), "a", "a"), ("way", ("a", ())))

    def test_none(self):
        web = row_web()
        self.assert_shortest(web, ALL_ON, "c", "a", None)
        self.assert_shortest(web, ALL_ON, "d", "a", None)
        self.assert_shortest(web, machine_of(on("u")), "a", "c", None)
        self.assert_shortest(web, machine_of(either()), "a", "a", None)
        self.assert_shortest(web, machine_of(("at", "m")), "b", "b", None)
        self.assert_shortest(web, (1, 0, (), ()), "a", "a", None)
        self.assert_shortest(web, (2, 0, (1,), ()), "a", "a", None)
        self.assert_shortest(web, (1, 0, (0,), ()), "a", "b", None)

    def test_moves_without_steps_take_none(self):
        row = (300, 0, (1, 299), tuple(sorted([(stand, STAY, stand + 1) for stand in range(1, 299)]
                                              + [(0, STAY, 2), (299, on("*"), 299), (2, on("u"), 1)])))
        self.assert_shortest(row_web(), row, "a", "a", 0)
        self.assert_shortest(row_web(), row, "a", "c", 1)
        self.assert_shortest(row_web(), row, "a", "d", 2)

    def test_no_knot_of_the_first_then_of_the_last(self):
        for machine in (ALL_ON, machine_of(either())):
            self.assert_no_knot("x", shortest, row_web(), machine, "x", "a")
            self.assert_no_knot("y", shortest, row_web(), machine, "a", "y")
            self.assert_no_knot("x", shortest, row_web(), machine, "x", "y")
            self.assert_no_knot("x", shortest, row_web(), machine, "x", "x")
        self.assert_no_knot("b", shortest, Web(), ALL_ON, "b", "a")

    def test_against_plain_going(self):
        chance = random.Random(39)
        told = {}
        for number in range(150):
            web = some_web(chance, chance.randint(1, 5), chance.randint(1, 7))
            machine = some_machine(chance, chance.randint(1, 7), chance.randint(1, 14))
            for one in web.knots():
                fewest = fewest_steps(web, machine, one)
                for other in web.knots():
                    lengths = [fewest[place] for place in fewest if place[0] == other and place[1] in machine[2]]
                    length = min(lengths, default=None)
                    told[length] = told.get(length, 0) + 1
                    self.assert_shortest(web, machine, one, other, length)
        self.assertGreater(min(told[length] for length in (None, 0, 1, 2)), 20)
        self.assertIn(3, told)

    def test_patterns_against_all_short_ways(self):
        chance = random.Random(40)
        for number in range(120):
            web = some_web(chance, 3, chance.randint(1, 4))
            pattern = some_pattern(chance, chance.randint(1, 10), 6)
            ways = [way for way in all_ways(web, 3) if fits_plainly(web, pattern, way)]
            for one in web.knots():
                for other in web.knots():
                    lengths = [len(way[1]) for way in ways if (way[0], end_plainly(way)) == (one, other)]
                    if lengths:
                        self.assert_shortest(web, machine_of(pattern), one, other, min(lengths))
                    else:
                        told = shortest(web, machine_of(pattern), one, other)
                        self.assertTrue(told[0] == "none" or len(told[1][1]) > 3)

    def test_a_great_web_and_a_pattern_of_forty(self):
        web = great_web()
        self.assertEqual((len(web.knots()), len(web.rows()[1])), (40, 300))
        knots = web.knots()
        for pattern in (then(*[on("*")] * 39), then(*[many(either(on("u")))] * 13), many(then(*[back("*")] * 38)),
                        either(*[on("v")] * 39), then(*[many(on("x"))] * 19, STAY)):
            self.assertEqual((is_pattern(pattern), parts_in(pattern)), (True, 40))
            machine = machine_of(pattern)
            for one, other in ((knots[0], knots[39]), (knots[20], knots[3])):
                fewest = fewest_steps(web, machine, one)
                lengths = [fewest[place] for place in fewest if place[0] == other and place[1] in machine[2]]
                self.assert_shortest(web, machine, one, other, min(lengths, default=None))

    def test_a_way_far_longer_than_the_web_is_great(self):
        web = web_with({name: [] for name in "abcdefg"}, [
            ("abcdefg"[place], "u", "abcdefg"[(place + 1) % 7]) for place in range(7)])
        machine = met(machine_of(then(on("u"), many(then(*[on("u")] * 11)))), machine_of(many(then(*[on("u")] * 13))))
        # 78 is the least number that 13 goes into and that is one more than 11 goes into.
        self.assert_shortest(web, machine, "a", "b", 78)
        self.assert_shortest(web, machine, "a", "a", 78 + 143 * 2)

    def test_two_machines_met_tell_ways_that_both_go(self):
        chance = random.Random(41)
        for number in range(40):
            web = some_web(chance, 4, 8)
            one, other = [machine_of(many(some_pattern(chance, 8, 5))) for both in range(2)]
            told = shortest(web, met(one, other), "a", "b")
            if told[0] == "way":
                self.assertIs(goes(web, one, told[1]) and goes(web, other, told[1]), True)
            again = shortest(web, met(turned(one), turned(other)), "b", "a")
            self.assertEqual(again[0], told[0])
            if told[0] == "way":
                self.assertEqual(len(again[1][1]), len(told[1][1]))

    def test_what_is_told_is_the_askers_own(self):
        web = row_web()
        told = shortest(web, ALL_ON, "c", "a")
        before = list(told[1])
        told[1].append(("changed", 0))
        told[1][0] = "changed"
        again = shortest(web, ALL_ON, "c", "a")
        self.assertEqual(sorted(again[1]), sorted(before))


if __name__ == "__main__":
    unittest.main()
