import copy
import random
import unittest

from pathask.fitting import fits
from pathask.machines import come_to, goes, is_machine, machine_of, stepped
from pathask.patterns import is_pattern, parts_in
from plainly import (
    NO_TUPLES, STAY, all_ways, back, changed_within, come_plainly, deep_thing, either, fits_plainly, goes_plainly, many,
    on, some_machine, some_pattern, some_thing, some_way, some_web, stepped_plainly, then, web_with)

RIGHT = (3, 0, (1, 2), ((0, ("at", "m"), 1), (0, STAY, 2), (0, on("u"), 0), (1, back("*"), 2)))


def leaf_plainly(thing):
    def name(text):
        return type(text) is str and 1 <= len(text) <= 8 and all("a" <= sign <= "z" for sign in text)

    if type(thing) is not tuple or not all(type(part) is str for part in thing):
        return False
    if len(thing) == 3:
        return thing[0] == "step" and thing[1] in ("on", "back") and (thing[2] == "*" or name(thing[2]))
    return thing == STAY or len(thing) == 2 and thing[0] in ("at", "off") and name(thing[1])


def is_machine_plainly(thing):
    if type(thing) is not tuple or len(thing) != 4 or type(thing[0]) is not int:
        return False
    count, begin, ends, moves = thing

    def stand(number):
        return type(number) is int and 0 <= number < count

    if not stand(begin) or type(ends) is not tuple or type(moves) is not tuple or not all(stand(end) for end in ends):
        return False
    for move in moves:
        if type(move) is not tuple or len(move) != 3 or not stand(move[0]) or not stand(move[2]):
            return False
        if not leaf_plainly(move[1]):
            return False
    return list(ends) == sorted(set(ends)) and list(moves) == sorted(set(moves))


class IsMachine(unittest.TestCase):
    def assert_machine(self, thing):
        self.assertIs(is_machine(thing), True, repr(thing))

    def assert_none(self, thing):
        self.assertIs(is_machine(thing), False, repr(thing))

    def test_right_ones(self):
        self.assert_machine((1, 0, (), ()))
        self.assert_machine((1, 0, (0,), ()))
        self.assert_machine((1, 0, (0,), ((0, STAY, 0),)))
        self.assert_machine((300, 299, tuple(range(300)), ()))
        self.assert_machine((10 ** 19, 10 ** 19 - 1, (0, 10 ** 18), ((10 ** 17, STAY, 10 ** 16),)))
        self.assert_machine(RIGHT)

    def test_no_stands(self):
        for count in (0, -1, -300):
            self.assert_none((count, 0, (), ()))
        self.assert_none((-1, -1, (), ()))
        self.assert_none((0, -1, (), ()))

    def test_a_begin_that_is_no_stand(self):
        for begin in (3, 4, -1, 10 ** 19):
            self.assert_none((3, begin, (), ()))

    def test_an_end_that_is_no_stand(self):
        for ends in ((3,), (-1,), (0, 3), (-1, 0), (0, 1, 2, 3)):
            self.assert_none((3, 0, ends, ()))

    def test_ends_not_sorted_or_twice(self):
        for ends in ((1, 0), (0, 2, 1), (0, 0), (1, 1, 2), (0, 2, 2)):
            self.assert_none((3, 0, ends, ()))

    def test_moves_not_sorted_or_twice(self):
        moves = RIGHT[3]
        self.assert_none(RIGHT[:3] + (moves[::-1],))
        for place in range(len(moves)):
            self.assert_none(RIGHT[:3] + (moves[:place + 1] + moves[place:],))
        for place in range(len(moves) - 1):
            swapped = moves[:place] + (moves[place + 1], moves[place]) + moves[place + 2:]
            self.assert_none(RIGHT[:3] + (swapped,))

    def test_a_move_of_no_stand(self):
        for stand in (3, -1, 10 ** 19):
            self.assert_none((3, 0, (), ((0, STAY, stand),)))
            self.assert_none((3, 0, (), ((stand, STAY, 0),)))

    def test_a_moves_leaf_that_is_none(self):
        for leaf in (then(), either(), then(STAY), many(STAY), many(on("u")), ("stay", "a"), (), "stay", ["stay"],
                     ("at", "*"), ("at", "A"), ("off", "*"), ("step", "on", "A"), ("step", "up", "u"), ("on", "u"),
                     ("step", "on"), ("step", "on", "u", "v"), ("step", ["on"], "u"), ("at", 0), None, 0, True):
            self.assert_none((2, 0, (), ((0, leaf, 1),)))

    def test_a_truth_in_the_place_of_a_whole_number(self):
        self.assert_none((True, 0, (), ()))
        self.assert_none((2, False, (), ()))
        self.assert_none((2, True, (), ()))
        self.assert_none((2, 0, (False,), ()))
        self.assert_none((2, 0, (0, True), ()))
        self.assert_none((2, 0, (), ((False, STAY, 1),)))
        self.assert_none((2, 0, (), ((0, STAY, True),)))

    def test_lists_in_the_place_of_tuples(self):
        self.assert_none(list(RIGHT))
        self.assert_none((3, 0, [1, 2], RIGHT[3]))
        self.assert_none((3, 0, (1, 2), list(RIGHT[3])))
        self.assert_none((3, 0, (), ([0, STAY, 1],)))
        self.assert_none((3, 0, (), ((0, ["stay"], 1),)))
        self.assert_none((3, 0, ([1],), ()))
        self.assert_none((1, 0, [], ()))
        self.assert_none((1, 0, (), []))

    def test_things_more_or_fewer(self):
        for thing in ((), (1,), (1, 0), (1, 0, ()), (1, 0, (), (), ()), RIGHT + ((),), RIGHT[1:],
                      (2, 0, (), ((0, STAY),)), (2, 0, (), ((0, STAY, 1, 1),)), (2, 0, (), ((),)), (2, 0, 0, ()),
                      (2, 0, (0,), (0, STAY, 1)), (2, 0, (0,), 0), (2, (0,), (0,), ())):
            self.assert_none(thing)

    def test_things_that_are_no_tuples(self):
        for thing in NO_TUPLES + [deep_thing(40), (1,) * 999, [1] * 999, on("u"), then(STAY)]:
            self.assert_none(thing)
        for place in range(4):
            for thing in NO_TUPLES:
                machine = list(RIGHT)
                machine[place] = thing
                self.assertIs(is_machine(tuple(machine)), is_machine_plainly(tuple(machine)), repr(machine))

    def test_things_that_can_not_be_compared(self):
        self.assert_none((3, 0, (0, "a"), ()))
        self.assert_none((3, 0, (None, 0), ()))
        self.assert_none((3, 0, (), ((0, STAY, 1), (0, None, 1))))
        self.assert_none((3, 0, (), ((0, STAY, 1), "move")))
        self.assert_none((3, 0, (), ((0, STAY, 1), (0, STAY, "a"))))

    def test_one_thing_changed_within_a_machine(self):
        others = [0, 1, 2, 3, -1, True, None, "a", "*", "on", "at", (), [], STAY, (0,), ("at", "m"), (0, STAY, 1)]

        def change(thing):
            return others + ([list(thing), thing + (0,), thing[1:], thing[:-1]] if isinstance(thing, tuple) else [])

        told = [0, 0]
        for thing in changed_within(RIGHT, change):
            right = is_machine_plainly(thing)
            told[right] += 1
            self.assertIs(is_machine(thing), right, repr(thing))
        self.assertGreater(min(told), 40)

    def test_any_thing(self):
        chance = random.Random(20)
        told = [0, 0]
        for number in range(4000):
            thing = some_thing(chance, 3, [0, 1, 2, 1, STAY, ("at", "m"), (0, STAY, 1), (0, 1), (1,), (), ()])
            if chance.random() < 0.6:
                thing = (3, chance.choice([0, 1, 2, 3]), chance.choice([(), (1,), thing]), chance.choice([(), thing]))
            right = is_machine_plainly(thing)
            told[right] += 1
            self.assertIs(is_machine(thing), right, repr(thing))
        self.assertGreater(min(told), 100)

    def test_machines_by_chance(self):
        chance = random.Random(21)
        for number in range(200):
            self.assert_machine(some_machine(chance, chance.randint(1, 300), chance.randint(0, 400)))


class WithoutSteps(unittest.TestCase):
    MACHINE = (9, 0, (8,), (
        (0, ("at", "m"), 1), (0, ("off", "m"), 2), (0, STAY, 3), (1, STAY, 4), (2, ("off", "n"), 5), (3, on("*"), 6),
        (4, ("at", "n"), 5), (5, STAY, 0), (6, STAY, 7), (7, back("u"), 8)))

    def test_by_stay_at_and_off_over_several_moves(self):
        self.assertEqual(come_to(self.MACHINE, (0,), []), (0, 2, 3, 5))
        self.assertEqual(come_to(self.MACHINE, (0,), ["m"]), (0, 1, 3, 4))
        self.assertEqual(come_to(self.MACHINE, (0,), ["n"]), (0, 2, 3))
        self.assertEqual(come_to(self.MACHINE, (0,), ["m", "n"]), (0, 1, 3, 4, 5))
        self.assertEqual(come_to(self.MACHINE, (0,), ["n", "x", "m", "y"]), (0, 1, 3, 4, 5))

    def test_a_ring_of_moves(self):
        self.assertEqual(come_to(self.MACHINE, (4,), ["m", "n"]), (0, 1, 3, 4, 5))
        ring = (3, 0, (), ((0, STAY, 1), (1, STAY, 2), (2, STAY, 0)))
        for stand in range(3):
            self.assertEqual(come_to(ring, (stand,), []), (0, 1, 2))
        self.assertEqual(come_to((1, 0, (), ((0, STAY, 0),)), (0,), []), (0,))

    def test_no_steps_are_gone(self):
        self.assertEqual(come_to(self.MACHINE, (3,), ["m", "n"]), (3,))
        self.assertEqual(come_to(self.MACHINE, (6,), []), (6, 7))

    def test_stands_in_any_order_and_some_twice(self):
        self.assertEqual(come_to(self.MACHINE, (8, 3, 6, 3, 8), []), (3, 6, 7, 8))
        self.assertEqual(come_to(self.MACHINE, (6, 0, 6), []), (0, 2, 3, 5, 6, 7))
        self.assertEqual(come_to(self.MACHINE, (), ["m"]), ())

    def test_marks_are_not_changed(self):
        marks = ["n", "m"]
        told = come_to(self.MACHINE, (0,), marks)
        self.assertEqual(marks, ["n", "m"])
        self.assertIs(type(told), tuple)
        self.assertEqual([type(stand) for stand in told], [int] * len(told))

    def test_a_long_row_of_moves(self):
        row = (300, 0, (299,), tuple((stand, STAY, stand + 1) for stand in range(299)))
        self.assertEqual(come_to(row, (0,), []), tuple(range(300)))
        self.assertEqual(come_to(row, (299, 298), []), (298, 299))


class ByAStep(unittest.TestCase):
    MACHINE = (9, 0, (), (
        (0, back("u"), 4), (0, on("*"), 3), (0, on("u"), 1), (0, on("v"), 2), (0, back("*"), 5), (1, STAY, 6),
        (2, ("off", "m"), 7), (3, on("u"), 1), (8, STAY, 0), (8, ("off", "m"), 3)))

    def setUp(self):
        self.machine = self.MACHINE[:3] + (tuple(sorted(self.MACHINE[3])),)

    def test_by_side_and_word_and_by_the_star(self):
        self.assertEqual(stepped(self.machine, (0,), "on", "u"), (1, 3))
        self.assertEqual(stepped(self.machine, (0,), "on", "v"), (2, 3))
        self.assertEqual(stepped(self.machine, (0,), "on", "w"), (3,))
        self.assertEqual(stepped(self.machine, (0,), "back", "u"), (4, 5))
        self.assertEqual(stepped(self.machine, (0,), "back", "v"), (5,))
        self.assertEqual(stepped(self.machine, (3,), "on", "u"), (1,))
        self.assertEqual(stepped(self.machine, (3,), "on", "v"), ())
        self.assertEqual(stepped(self.machine, (3,), "back", "u"), ())

    def test_none_come_along_without_steps(self):
        self.assertEqual(stepped(self.machine, (8,), "on", "u"), ())
        self.assertEqual(stepped(self.machine, (1, 2), "on", "u"), ())
        self.assertEqual(stepped(self.machine, (0, 8), "on", "v"), (2, 3))

    def test_stands_in_any_order_and_some_twice(self):
        self.assertEqual(stepped(self.machine, (3, 0, 3, 0), "on", "u"), (1, 3))
        self.assertEqual(stepped(self.machine, (), "on", "u"), ())
        told = stepped(self.machine, (3, 0), "on", "u")
        self.assertIs(type(told), tuple)

    def test_the_stands_themselves_are_not_told(self):
        self.assertEqual(stepped((2, 0, (), ((0, on("u"), 0), (1, on("u"), 0))), (0, 1), "on", "u"), (0,))


class AgainstPlainGoing(unittest.TestCase):
    def test_come_to_and_stepped(self):
        chance = random.Random(22)
        for number in range(300):
            machine = some_machine(chance, chance.randint(1, 12), chance.randint(0, 30))
            stands = tuple(chance.randrange(machine[0]) for number in range(chance.randint(0, 4)))
            marks = [mark for mark in "nm" if chance.random() < 0.5]
            self.assertEqual(come_to(machine, stands, marks), tuple(sorted(come_plainly(machine, stands, marks))))
            for side in ("on", "back"):
                for word in ("u", "v", "w"):
                    right = tuple(sorted(stepped_plainly(machine, stands, side, word)))
                    self.assertEqual(stepped(machine, stands, side, word), right)

    def test_goes(self):
        chance = random.Random(23)
        told = [0, 0]
        for number in range(200):
            web = some_web(chance, chance.randint(1, 3), chance.randint(1, 4))
            machine = some_machine(chance, chance.randint(1, 6), chance.randint(2, 20))
            for way in all_ways(web, 3)[:80]:
                right = goes_plainly(web, machine, way)
                told[right] += 1
                self.assertIs(goes(web, machine, way), right, (web.rows(), machine, way))
        self.assertGreater(min(told), 1000)


class Goes(unittest.TestCase):
    def setUp(self):
        self.web = web_with({"a": ["m"], "b": [], "c": ["m"]}, [("a", "u", "b"), ("b", "v", "c")])

    def test_ways_that_are_gone_and_ways_that_are_not(self):
        machine = (3, 0, (2,), ((0, on("u"), 1), (1, on("*"), 2), (2, back("v"), 1)))
        step_one, step_two, step_three = ("on", "u", "b"), ("on", "v", "c"), ("back", "v", "b")
        self.assertIs(goes(self.web, machine, ("a", (step_one, step_two))), True)
        self.assertIs(goes(self.web, machine, ("a", (step_one, step_two, step_three, step_two))), True)
        self.assertIs(goes(self.web, machine, ("a", ())), False)
        self.assertIs(goes(self.web, machine, ("a", (step_one,))), False)
        self.assertIs(goes(self.web, machine, ("a", (step_one, step_two, step_three))), False)
        self.assertIs(goes(self.web, machine, ("b", (step_two,))), False)

    def test_moves_without_steps_at_the_begin_and_at_the_end(self):
        machine = (4, 0, (3,), ((0, ("at", "m"), 1), (1, on("u"), 2), (2, ("off", "m"), 3)))
        way = ("a", (("on", "u", "b"),))
        self.assertIs(goes(self.web, machine, way), True)
        self.web.put_mark("b", "m")
        self.assertIs(goes(self.web, machine, way), False)
        self.web.take_mark("b", "m")
        self.web.take_mark("a", "m")
        self.assertIs(goes(self.web, machine, way), False)

    def test_a_begin_that_is_an_end(self):
        self.assertIs(goes(self.web, (1, 0, (0,), ()), ("a", ())), True)
        self.assertIs(goes(self.web, (1, 0, (), ()), ("a", ())), False)
        self.assertIs(goes(self.web, (1, 0, (0,), ()), ("a", (("on", "u", "b"),))), False)
        self.assertIs(goes(self.web, (2, 1, (1,), ()), ("a", ())), True)

    def test_sixty_steps_by_a_machine_of_three_hundred_stands(self):
        chance = random.Random(24)
        web = some_web(chance, 5, 10)
        machine = some_machine(chance, 300, 900)
        machine = machine[:2] + (tuple(range(300)),) + machine[3:]
        way = some_way(chance, web, 60)
        self.assertEqual(len(way[1]), 60)
        self.assertIs(goes(web, machine, way), goes_plainly(web, machine, way))

    def test_the_web_stays(self):
        rows = self.web.rows()
        machine = machine_of(many(either(on("*"), ("at", "m"))))
        kept = copy.deepcopy(machine)
        goes(self.web, machine, ("a", (("on", "u", "b"),)))
        self.assertEqual((self.web.rows(), machine), (rows, kept))


class MachinesOfPatterns(unittest.TestCase):
    def assert_right(self, pattern):
        machine = machine_of(pattern)
        self.assertIs(is_machine(machine), True)
        self.assertIs(is_machine_plainly(machine), True)
        self.assertLessEqual(machine[0], 100)
        self.assertEqual(machine_of(copy.deepcopy(pattern)), machine)
        return machine

    def test_each_sort_goes_just_the_ways_that_fit(self):
        web = web_with({"a": ["m"], "b": ["n"], "c": []}, [("a", "u", "b"), ("b", "v", "c"), ("c", "u", "c")])
        leaves = [STAY, on("u"), back("u"), on("*"), back("*"), ("at", "m"), ("off", "m")]
        patterns = leaves + [then(), either(), many(then()), many(either()), many(many(on("u")))]
        for leaf in leaves:
            patterns += [many(leaf), then(leaf), either(leaf), then(leaf, on("u")), then(on("u"), leaf),
                         either(leaf, back("v")), many(either(leaf, then(on("u"), back("*")))),
                         then(many(leaf), many(on("v")))]
        for pattern in patterns:
            machine = self.assert_right(pattern)
            for way in all_ways(web, 3):
                right = fits_plainly(web, pattern, way)
                self.assertIs(goes(web, machine, way), right, (pattern, way))
                self.assertIs(goes_plainly(web, machine, way), right, (pattern, way))

    def test_patterns_by_chance(self):
        chance = random.Random(25)
        told = [0, 0]
        for number in range(300):
            web = some_web(chance, chance.randint(1, 3), chance.randint(1, 4))
            pattern = some_pattern(chance, chance.randint(1, 16), chance.randint(1, 10))
            machine = self.assert_right(pattern)
            for way in all_ways(web, 3)[:100]:
                right = fits_plainly(web, pattern, way)
                told[right] += 1
                self.assertIs(goes(web, machine, way), right, (web.rows(), pattern, way))
        self.assertGreater(min(told), 500)

    def test_patterns_of_forty_have_at_most_a_hundred_stands(self):
        chance = random.Random(26)
        great = [then(*[on("u")] * 39), either(*[on("u")] * 39), then(*[many(on("u"))] * 19), then(*[then()] * 39),
                 then(*[either()] * 39), either(*[many(STAY)] * 19), many(then(*[many(on("u"))] * 19)),
                 either(*[then(STAY, STAY)] * 13), then(*[then(STAY, STAY)] * 13)]
        great += [some_pattern(chance, 40, 10) for number in range(300)]
        for pattern in great:
            self.assertIs(is_pattern(pattern), True)
            self.assert_right(pattern)
        self.assertGreater(len([pattern for pattern in great if parts_in(pattern) == 40]), 100)

    def test_great_patterns_go_just_the_ways_that_fit(self):
        chance = random.Random(27)
        told = [0, 0]
        for number in range(150):
            web = some_web(chance, 2, 3, ("u",), ("m",))
            pattern = many(either(*[some_pattern(chance, 6, 5, ("u",), ("m",)) for number in range(5)]))
            machine = self.assert_right(pattern)
            for way in [some_way(chance, web, chance.randint(0, 9)) for number in range(8)]:
                right = fits_plainly(web, pattern, way)
                told[right] += 1
                self.assertIs(goes(web, machine, way), right)
                self.assertIs(fits(web, pattern, way), right)
        self.assertGreater(min(told), 40)

    def test_what_stands_twice_is_one_move(self):
        self.assert_right(either(on("u"), on("u"), STAY, then(), STAY))
        self.assert_right(many(either(STAY, many(STAY), then(then()), STAY)))


if __name__ == "__main__":
    unittest.main()
