import copy
import random
import unittest

from pathask.errors import NoMeet, PathError
from pathask.ways import back_of, end_of, is_way, put_behind
from pathask.webs import Web, web_of
from plainly import (
    NO_TUPLES, all_ways, changed_within, deep_thing, end_plainly, some_thing, some_way, some_web, steps_of, web_with)


def small_web():
    return web_with(
        {"a": ["red"], "b": [], "c": ["a"]}, [("a", "likes", "b"), ("b", "likes", "c"), ("c", "owns", "c")])


LONG = ("a", (
    ("on", "likes", "b"), ("on", "likes", "c"), ("on", "owns", "c"), ("back", "owns", "c"), ("back", "likes", "b")))


def is_way_plainly(web, thing):
    rows = web.rows()
    if type(thing) is not tuple or len(thing) != 2 or type(thing[1]) is not tuple:
        return False
    if type(thing[0]) is not str or thing[0] not in [name for name, marks in rows[0]]:
        return False
    knot = thing[0]
    for step in thing[1]:
        if type(step) is not tuple or step not in steps_of(rows, knot):
            return False
        knot = step[2]
    return True


class IsWay(unittest.TestCase):
    def assert_way(self, web, thing, told):
        before = (web.rows(), copy.deepcopy(thing))
        self.assertIs(is_way(web, thing), told, repr(thing))
        self.assertEqual((web.rows(), thing), before)

    def test_ways_of_none_one_and_many_steps(self):
        web = small_web()
        for knot in "abc":
            self.assert_way(web, (knot, ()), True)
        self.assert_way(web, ("a", (("on", "likes", "b"),)), True)
        self.assert_way(web, ("b", (("back", "likes", "a"),)), True)
        self.assert_way(web, ("c", (("on", "owns", "c"),)), True)
        self.assert_way(web, ("c", (("back", "owns", "c"),)), True)
        self.assert_way(web, LONG, True)

    def test_sixty_steps(self):
        web = small_web()
        steps = (("on", "likes", "b"), ("back", "likes", "a")) * 30
        self.assert_way(web, ("a", steps), True)
        self.assert_way(web, ("a", steps[:-1] + (("back", "likes", "c"),)), False)
        self.assert_way(web, ("a", (("on", "likes", "c"),) + steps[1:]), False)
        self.assert_way(web, ("c", (("on", "owns", "c"),) * 60), True)

    def test_a_way_greater_than_sixty_steps_is_asked_too(self):
        self.assert_way(small_web(), ("c", (("on", "owns", "c"), ("back", "owns", "c")) * 500), True)

    def test_a_step_of_another_side_word_or_knot(self):
        web = small_web()
        for step in (("back", "likes", "b"), ("on", "owns", "b"), ("on", "likes", "c"), ("on", "likes", "a"),
                     ("on", "likes", "x"), ("on", "red", "b"), ("off", "likes", "b"), ("step", "likes", "b"),
                     ("", "likes", "b"), ("on", "*", "b"), ("on", "", "b"), ("On", "likes", "b")):
            self.assert_way(web, ("a", (step,)), False)
        self.assert_way(web, ("b", (("on", "likes", "a"),)), False)
        self.assert_way(web, ("b", (("back", "likes", "c"),)), False)

    def test_a_step_is_one_from_the_knot_where_it_stands(self):
        web = small_web()
        self.assert_way(web, ("a", (("on", "likes", "b"), ("on", "likes", "b"))), False)
        self.assert_way(web, ("a", (("on", "likes", "b"), ("on", "owns", "c"))), False)
        self.assert_way(web, ("a", (("on", "owns", "c"),)), False)
        self.assert_way(web, ("a", LONG[1][1:]), False)

    def test_a_knot_that_is_not_there(self):
        web = small_web()
        for knot in ("x", "red", "likes", "", "A", "a ", "*"):
            self.assert_way(web, (knot, ()), False)
        self.assert_way(web, ("x", (("on", "likes", "b"),)), False)
        self.assert_way(Web(), ("a", ()), False)
        web.take_knot("a")
        self.assert_way(web, ("a", ()), False)
        self.assert_way(web, ("b", (("back", "likes", "a"),)), False)

    def test_lists_in_the_place_of_tuples(self):
        web = small_web()
        step = ("on", "likes", "b")
        for thing in (["a", ()], ("a", []), ["a", []], ["a", (step,)], ("a", [step]), ("a", (list(step),)),
                      ("a", (step, ["back", "likes", "a"])), (["a"], ()), ([], ()), ("a", ([],)),
                      ("a", ((["on"], "likes", "b"),)), ("a", (("on", ["likes"], "b"),)),
                      ("a", (("on", "likes", ["b"]),))):
            self.assert_way(web, thing, False)

    def test_a_thing_more_or_fewer(self):
        web = small_web()
        step = ("on", "likes", "b")
        for thing in ((), ("a",), ("a", (), ()), ("a", (step,), ()), ((),), ("a", step), ("a", ((),)),
                      ("a", (step[:2],)), ("a", (step + ("b",),)), ("a", step[:1]), ("a", (step, ()))):
            self.assert_way(web, thing, False)

    def test_things_of_other_kinds(self):
        web = small_web()
        for thing in NO_TUPLES + [deep_thing(40), ("a", deep_thing(38, "b")), ("a",) * 999, ["a"] * 999]:
            self.assert_way(web, thing, False)
        for thing in NO_TUPLES:
            self.assert_way(web, (thing, ()), thing == "a")
            self.assert_way(web, ("a", thing), False)
            self.assert_way(web, ("a", (thing,)), False)
            for place in range(3):
                step = ["on", "likes", "b"]
                step[place] = thing
                self.assert_way(web, ("a", (tuple(step),)), False)

    def test_one_thing_changed_within_a_way(self):
        web = small_web()
        others = ["a", "b", "on", "back", "owns", "likes", 0, True, None, (), [], ("a",)]

        def change(thing):
            return others + ([list(thing), thing + (thing,), thing[1:], thing[:-1]] if isinstance(thing, tuple) else [])

        things = changed_within(LONG, change)
        self.assertGreater(len(things), 200)
        for thing in things:
            self.assert_way(web, thing, is_way_plainly(web, thing))

    def test_any_thing(self):
        web = small_web()
        chance = random.Random(8)
        for number in range(4000):
            thing = some_thing(chance, 4, ["a", "b", "c", "on", "back", "likes", "owns"])
            self.assert_way(web, thing, is_way_plainly(web, thing))

    def test_all_short_ways(self):
        web = small_web()
        ways = all_ways(web, 4)
        for way in ways:
            self.assert_way(web, way, True)
        web.take_tie("c", "owns", "c")
        for way in ways:
            self.assert_way(web, way, is_way_plainly(web, way))

    def test_a_way_of_a_web_greater_than_a_deed_makes(self):
        names = [chr(97 + number // 26) + chr(97 + number % 26) for number in range(60)]
        ties = sorted((one, "w", other) for one in names for other in names[:10])
        web = web_of((tuple((name, ()) for name in names), tuple(ties)))
        self.assert_way(web, (names[59], (("on", "w", names[9]), ("back", "w", names[58]))), True)
        self.assert_way(web, (names[59], (("on", "w", names[10]),)), False)


class Ends(unittest.TestCase):
    def test_with_steps_and_without(self):
        self.assertEqual(end_of(("a", ())), "a")
        self.assertEqual(end_of(("a", (("on", "likes", "b"),))), "b")
        self.assertEqual(end_of(LONG), "b")
        self.assertEqual(end_of(("a", (("on", "likes", "b"), ("back", "likes", "a")))), "a")


class Backwards(unittest.TestCase):
    def test_no_steps(self):
        self.assertEqual(back_of(("a", ())), ("a", ()))

    def test_one_step(self):
        self.assertEqual(back_of(("a", (("on", "likes", "b"),))), ("b", (("back", "likes", "a"),)))
        self.assertEqual(back_of(("b", (("back", "likes", "a"),))), ("a", (("on", "likes", "b"),)))

    def test_many_steps_on_and_back(self):
        told = ("b", (
            ("on", "likes", "c"), ("on", "owns", "c"), ("back", "owns", "c"), ("back", "likes", "b"),
            ("back", "likes", "a")))
        self.assertEqual(back_of(LONG), told)

    def test_it_is_of_tuples(self):
        told = back_of(LONG)
        self.assertEqual([type(told), type(told[1])] + [type(step) for step in told[1]], [tuple] * 7)

    def test_backwards_twice_is_the_way_itself(self):
        web = small_web()
        for way in all_ways(web, 4):
            told = back_of(way)
            self.assertIs(is_way(web, told), True)
            self.assertEqual((told[0], end_of(told)), (end_plainly(way), way[0]))
            self.assertEqual(len(told[1]), len(way[1]))
            self.assertEqual(back_of(told), way)

    def test_by_the_same_ties(self):
        chance = random.Random(9)

        def ties_of(way):
            knots = [way[0]] + [step[2] for step in way[1]]
            return [(knots[place], step[1], step[2]) if step[0] == "on" else (step[2], step[1], knots[place])
                    for place, step in enumerate(way[1])]

        for number in range(50):
            way = some_way(chance, some_web(chance, 4, 8), 60)
            self.assertEqual(ties_of(back_of(way)), ties_of(way)[::-1])


class OneBehindTheOther(unittest.TestCase):
    def test_all_cuts_of_a_way(self):
        knots = [LONG[0]] + [step[2] for step in LONG[1]]
        for cut in range(len(LONG[1]) + 1):
            one, other = (LONG[0], LONG[1][:cut]), (knots[cut], LONG[1][cut:])
            self.assertEqual(put_behind(one, other), LONG)

    def test_ways_without_steps(self):
        self.assertEqual(put_behind(("a", ()), ("a", ())), ("a", ()))
        self.assertEqual(put_behind(("a", ()), LONG), LONG)
        self.assertEqual(put_behind(LONG, ("b", ())), LONG)

    def test_no_meet_bears_the_second_ones_knot(self):
        for one, other in ((("a", ()), ("b", ())), (LONG, LONG), (LONG, ("c", ())), (("b", ()), LONG),
                           (("a", (("on", "likes", "b"),)), ("c", (("back", "likes", "b"),)))):
            with self.assertRaises(PathError) as taken:
                put_behind(one, other)
            self.assertIs(type(taken.exception), NoMeet)
            self.assertEqual(taken.exception.knot, other[0])

    def test_what_is_put_together_is_a_way_again(self):
        web = small_web()
        ways = all_ways(web, 2)
        met = 0
        for one in ways:
            for other in ways:
                if end_plainly(one) == other[0]:
                    told = put_behind(one, other)
                    self.assertEqual(told, (one[0], one[1] + other[1]))
                    self.assertIs(is_way(web, told), True)
                    met += 1
                else:
                    self.assertRaises(NoMeet, put_behind, one, other)
        self.assertGreater(met, 100)

    def test_a_way_and_its_way_backwards_round_and_round(self):
        way = LONG
        for number in range(7):
            way = put_behind(way, back_of(way))
            self.assertEqual(back_of(way), way)
        self.assertEqual(len(way[1]), 5 * 2 ** 7)
        self.assertIs(is_way(small_web(), way), True)


if __name__ == "__main__":
    unittest.main()
