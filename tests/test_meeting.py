import copy
import random
import unittest

from pathask.machines import goes, is_machine, machine_of
from pathask.meeting import met, turned
from pathask.ways import back_of
from plainly import (
    STAY, all_ways, back, either, fits_plainly, goes_plainly, many, on, some_machine, some_pattern, some_way, some_web,
    then, web_with)


def ring_web():
    return web_with(
        {"a": ["m"], "b": ["n"], "c": ["m", "n"]},
        [("a", "u", "b"), ("b", "v", "c"), ("c", "u", "a"), ("c", "w", "c")])


def great_machine(chance):
    """Of a hundred stands, with long rows of moves, rings and many ends."""
    moves = {(stand, chance.choice([STAY, on("u"), on("*"), back("v"), ("at", "m"), ("off", "n")]), (stand + 1) % 100)
             for stand in range(100)}
    moves |= set(some_machine(chance, 100, 150)[3])
    return (100, chance.randrange(100), tuple(sorted(chance.sample(range(100), 20))), tuple(sorted(moves)))


class Met(unittest.TestCase):
    def assert_met(self, web, one, other, ways):
        kept = copy.deepcopy((web.rows(), one, other))
        machine = met(one, other)
        self.assertIs(is_machine(machine), True)
        told = [0, 0]
        for way in ways:
            right = goes_plainly(web, one, way) and goes_plainly(web, other, way)
            told[right] += 1
            self.assertIs(goes(web, machine, way), right, (web.rows(), one, other, way))
        self.assertEqual((web.rows(), one, other), kept)
        return told

    def test_of_patterns(self):
        web = ring_web()
        ways = all_ways(web, 3)
        patterns = [
            STAY, either(), then(), on("u"), on("*"), back("*"), ("at", "m"), ("off", "m"), many(on("*")),
            many(either(on("*"), back("*"))), then(many(on("u")), ("at", "n")), many(then(on("*"), ("at", "n"))),
            either(on("u"), then(on("*"), on("v"))), then(("at", "m"), on("*"), ("off", "m")), many(many(on("v")))]
        for one in patterns:
            for other in patterns:
                machine = met(machine_of(one), machine_of(other))
                self.assertIs(is_machine(machine), True)
                for way in ways:
                    right = fits_plainly(web, one, way) and fits_plainly(web, other, way)
                    self.assertIs(goes(web, machine, way), right, (one, other, way))

    def test_words_and_the_star(self):
        web = ring_web()
        steps = [on("u"), on("v"), on("*"), back("u"), back("*")]
        for one in steps:
            for other in steps:
                self.assert_met(web, machine_of(one), machine_of(other), all_ways(web, 1))

    def test_both_in_step_all_along(self):
        one = machine_of(many(then(on("w"), on("w"))))
        other = machine_of(many(then(on("w"), on("w"), on("w"))))
        machine = met(one, other)
        for length in range(25):
            self.assertIs(goes(ring_web(), machine, ("c", (("on", "w", "c"),) * length)), length % 6 == 0)

    def test_machines_by_chance(self):
        chance = random.Random(28)
        told = [0, 0]
        for number in range(200):
            web = some_web(chance, chance.randint(1, 3), chance.randint(1, 4))
            one, other = [some_machine(chance, chance.randint(1, 6), chance.randint(4, 25)) for both in range(2)]
            counts = self.assert_met(web, one, other, all_ways(web, 3)[:60])
            told = [told[0] + counts[0], told[1] + counts[1]]
        self.assertGreater(min(told), 300)

    def test_patterns_by_chance(self):
        chance = random.Random(29)
        told = [0, 0]
        for number in range(150):
            web = some_web(chance, 2, chance.randint(1, 4), ("u",), ("m",))
            one, other = [machine_of(many(some_pattern(chance, 8, 6, ("u",), ("m",)))) for both in range(2)]
            counts = self.assert_met(web, one, other, all_ways(web, 3)[:60])
            told = [told[0] + counts[0], told[1] + counts[1]]
        self.assertGreater(min(told), 300)

    def test_machines_of_a_hundred_stands(self):
        chance = random.Random(30)
        told = [0, 0]
        for number in range(6):
            web = some_web(chance, 4, 8)
            ways = [some_way(chance, web, chance.randint(0, 12)) for way in range(12)]
            counts = self.assert_met(web, great_machine(chance), great_machine(chance), ways)
            told = [told[0] + counts[0], told[1] + counts[1]]
        self.assertGreater(min(told), 0)

    def test_a_machine_without_ends(self):
        none = (1, 0, (), ())
        self.assert_met(ring_web(), none, machine_of(many(on("*"))), all_ways(ring_web(), 2))
        self.assert_met(ring_web(), none, none, all_ways(ring_web(), 2))

    def test_a_machine_with_itself(self):
        chance = random.Random(31)
        for number in range(20):
            machine = some_machine(chance, 4, 15)
            self.assert_met(ring_web(), machine, machine, all_ways(ring_web(), 2))

    def test_what_was_told_is_met_again(self):
        one, other = machine_of(many(on("*"))), machine_of(many(either(on("u"), on("v"))))
        machine = met(met(one, other), met(other, turned(turned(one))))
        self.assertIs(is_machine(machine), True)
        for way in all_ways(ring_web(), 3):
            self.assertIs(goes(ring_web(), machine, way), fits_plainly(ring_web(), many(either(on("u"), on("v"))), way))


class Turned(unittest.TestCase):
    def assert_turned(self, web, machine, ways):
        kept = copy.deepcopy((web.rows(), machine))
        told = [0, 0]
        backwards = turned(machine)
        self.assertIs(is_machine(backwards), True)
        for way in ways:
            right = goes_plainly(web, machine, back_of(way))
            told[right] += 1
            self.assertIs(goes(web, backwards, way), right, (web.rows(), machine, way))
        self.assertEqual((web.rows(), machine), kept)
        return told

    def test_of_patterns(self):
        web = ring_web()
        for pattern in (STAY, then(), either(), on("u"), back("u"), on("*"), ("at", "m"), ("off", "n"), many(on("u")),
                        then(on("u"), on("v")), then(on("u"), ("at", "n"), back("*")), then(("at", "m"), on("*")),
                        either(on("u"), then(back("v"), back("u"))), many(then(on("u"), many(on("v"))))):
            self.assert_turned(web, machine_of(pattern), all_ways(web, 3))

    def test_machines_by_chance(self):
        chance = random.Random(32)
        told = [0, 0]
        for number in range(200):
            web = some_web(chance, chance.randint(1, 3), chance.randint(1, 4))
            counts = self.assert_turned(
                web, some_machine(chance, chance.randint(1, 6), chance.randint(2, 20)), all_ways(web, 3)[:60])
            told = [told[0] + counts[0], told[1] + counts[1]]
        self.assertGreater(min(told), 500)

    def test_ends_of_any_number(self):
        web = ring_web()
        for ends in ((), (0,), (1,), (0, 1), (0, 1, 2)):
            for begin in range(3):
                machine = (3, begin, ends, ((0, on("*"), 1), (0, on("u"), 2), (1, ("at", "n"), 2), (1, back("u"), 0)))
                self.assert_turned(web, machine, all_ways(web, 3))

    def test_machines_of_a_hundred_stands(self):
        chance = random.Random(33)
        for number in range(5):
            web = some_web(chance, 4, 8)
            self.assert_turned(web, great_machine(chance), [some_way(chance, web, 9) for way in range(10)])

    def test_turned_twice_goes_the_same(self):
        chance = random.Random(34)
        for number in range(40):
            machine = some_machine(chance, 5, 15)
            again = turned(turned(machine))
            for way in all_ways(ring_web(), 2):
                self.assertIs(goes(ring_web(), again, way), goes_plainly(ring_web(), machine, way))

    def test_what_two_both_go_is_turned(self):
        chance = random.Random(35)
        both = met(great_machine(chance), great_machine(chance))
        backwards = turned(both)
        self.assertIs(is_machine(backwards), True)
        web = some_web(chance, 3, 6)
        for way in [some_way(chance, web, 5) for number in range(5)]:
            self.assertIs(goes(web, backwards, way), goes(web, both, back_of(way)))


if __name__ == "__main__":
    unittest.main()
