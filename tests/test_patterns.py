import random
import unittest

from pathask.patterns import is_pattern, leaves_in, marks_in, parts_in, words_in
from plainly import (
    ANY_ON, NO_TUPLES, STAY, back, changed_within, deep_thing, either, many, on, some_pattern, some_thing, then)

LEAVES = [STAY, on("likes"), back("likes"), ANY_ON, back("*"), ("at", "red"), ("off", "red")]


def nested(depth, inmost=STAY):
    for number in range(depth - 1):
        inmost = [many, then, either][number % 3](inmost)
    return inmost


def plain_name(thing):
    return type(thing) is str and 1 <= len(thing) <= 8 and all(sign in "abcdefghijklmnopqrstuvwxyz" for sign in thing)


def form_plainly(thing):
    """How many patterns there are in it and how many lie within one another; None where it has no pattern's form."""
    if type(thing) is not tuple or not thing or type(thing[0]) is not str:
        return None
    if thing == ("stay",):
        return (1, 1)
    if thing[0] == "step" and len(thing) == 3:
        right = type(thing[1]) is str and thing[1] in ("on", "back")
        return (1, 1) if right and (thing[2] == "*" or plain_name(thing[2])) else None
    if len(thing) != 2:
        return None
    if thing[0] in ("at", "off"):
        return (1, 1) if plain_name(thing[1]) else None
    if thing[0] == "many":
        within = (thing[1],)
    elif thing[0] in ("then", "either") and type(thing[1]) is tuple:
        within = thing[1]
    else:
        return None
    forms = [form_plainly(part) for part in within]
    if None in forms:
        return None
    return (1 + sum(form[0] for form in forms), 1 + max([form[1] for form in forms], default=0))


def is_pattern_plainly(thing):
    form = form_plainly(thing)
    return form is not None and form[0] <= 40 and form[1] <= 10


class IsPattern(unittest.TestCase):
    def assert_pattern(self, thing):
        self.assertIs(is_pattern(thing), True, repr(thing))

    def assert_none(self, thing):
        self.assertIs(is_pattern(thing), False, repr(thing))

    def test_each_sort(self):
        for leaf in LEAVES:
            self.assert_pattern(leaf)
            self.assert_pattern(many(leaf))
            for joint in (then, either):
                self.assert_pattern(joint(leaf))
                self.assert_pattern(joint(leaf, leaf, STAY))
                self.assert_pattern(many(joint(leaf, many(joint()))))

    def test_then_and_either_of_none_to_thirty_nine(self):
        for sort in ("then", "either"):
            for count in range(40):
                self.assert_pattern((sort, (STAY,) * count))
            for count in (40, 41, 100):
                self.assert_none((sort, (STAY,) * count))

    def test_words_and_marks(self):
        for name in ("a", "z", "abcdefgh", "on", "many", "stay", "step"):
            self.assert_pattern(on(name))
            self.assert_pattern(back(name))
            self.assert_pattern(("at", name))
            self.assert_pattern(("off", name))
        for word in ("", "A", "abcdefghi", "a b", "**", "*a", "a*", "a1", " ", "-", "a\n"):
            self.assert_none(on(word))
            self.assert_none(back(word))
            self.assert_none(("at", word))
            self.assert_none(("off", word))

    def test_the_star_is_a_word_and_no_mark(self):
        self.assert_pattern(on("*"))
        self.assert_pattern(back("*"))
        self.assert_none(("at", "*"))
        self.assert_none(("off", "*"))

    def test_sides(self):
        for side in ("", "off", "at", "On", "*", "step", "backs", None, 0, True, ["on"], ("on",)):
            self.assert_none(("step", side, "a"))

    def test_sorts_that_are_none(self):
        for sort in ("", "Stay", "on", "back", "one", "steps", "*", None, 0, True, ("stay",), ["stay"]):
            self.assert_none((sort,))
            self.assert_none((sort, "a"))
            self.assert_none((sort, ()))
            self.assert_none((sort, STAY))
            self.assert_none((sort, "on", "a"))

    def test_a_thing_more_or_fewer(self):
        for thing in ((), ("stay", "a"), ("stay", ()), ("stay", STAY), ("step",), ("step", "on"), ("step", "a"),
                      ("step", "on", "a", "b"), ("at",), ("at", "a", "b"), ("off",), ("off", "a", "b"), ("then",),
                      ("then", STAY), ("then", (STAY,), (STAY,)), ("then", STAY, STAY), ("either",), ("either", STAY),
                      ("either", (), ()), ("many",), ("many", STAY, STAY), ("many", ()), ("many", (STAY,)),
                      ("many", "stay"), ("then", ((),)), ("then", ("stay",)), ("then", "")):
            self.assert_none(thing)

    def test_lists_in_the_place_of_tuples(self):
        for thing in (["stay"], ["step", "on", "a"], ["at", "a"], ["off", "a"], ["then", ()], ("then", []),
                      ("either", [STAY]), ["either", (STAY,)], ("many", ["stay"]), ["many", STAY],
                      then(STAY, ["stay"]), ("step", "on", ["a"]), ("at", ["a"]), ("at", ("a",))):
            self.assert_none(thing)
            self.assert_none(many(thing))
            self.assert_none(then(STAY, thing))

    def test_things_that_are_no_tuples(self):
        for thing in NO_TUPLES + [deep_thing(40), deep_thing(40, STAY), (STAY,) * 999, [STAY] * 999, ("then",) * 999]:
            self.assert_none(thing)
            self.assert_none(("then", (STAY, thing)))
        for thing in NO_TUPLES:
            self.assert_none(("many", thing))
            self.assert_none(("then", thing))
            self.assert_none(("either", (thing,)))
            if thing != "a" and thing != "stay":
                self.assert_none(("step", "on", thing))
                self.assert_none(("at", thing))

    def test_forty_patterns_and_forty_one(self):
        self.assert_pattern(then(*[on("a")] * 39))
        self.assert_none(then(*[on("a")] * 38, many(STAY)))
        self.assert_none(many(then(*[on("a")] * 39)))
        self.assert_pattern(many(then(*[on("a")] * 38)))
        half = either(*[many(STAY)] * 9)
        self.assert_pattern(then(half, half, STAY))
        self.assert_none(then(half, half, STAY, STAY))
        self.assert_none(then(half, half, many(STAY)))
        self.assert_pattern(then(*[then()] * 39))

    def test_ten_within_one_another_and_eleven(self):
        for inmost in LEAVES + [then(), either()]:
            self.assert_pattern(nested(10, inmost))
            self.assert_none(nested(11, inmost))
        for joint in (many, then, either):
            thing = STAY
            for depth in range(2, 39):
                thing = joint(thing)
                self.assertIs(is_pattern(thing), depth <= 10)
        self.assert_pattern(then(STAY, nested(9), STAY))
        self.assert_none(then(STAY, nested(10), STAY))

    def test_a_fault_deep_within(self):
        for wrong in (("at", "*"), ("stay", "a"), None, [], "stay", ("then", []), ("step", "up", "a"), ()):
            self.assert_none(nested(10, wrong))
            self.assert_none(then(*[STAY] * 38, wrong))
            self.assert_none(then(wrong, *[STAY] * 38))

    def test_one_thing_changed_within_a_pattern(self):
        pattern = then(on("a"), many(either(back("*"), then(), STAY)), ("at", "m"), ("off", "n"))
        self.assert_pattern(pattern)
        others = ["a", "*", "on", "stay", "then", "many", "at", 0, True, None, (), [], STAY, then()]

        def change(thing):
            return others + ([list(thing), thing + (STAY,), thing[1:], thing[:-1]] if isinstance(thing, tuple) else [])

        told = [0, 0]
        for thing in changed_within(pattern, change):
            right = is_pattern_plainly(thing)
            told[right] += 1
            self.assertIs(is_pattern(thing), right, repr(thing))
        self.assertGreater(min(told), 40)

    def test_any_thing(self):
        chance = random.Random(10)
        words = ["stay", "step", "on", "back", "at", "off", "then", "either", "many", "many", "a", STAY, ("at", "a")]
        told = [0, 0]
        for number in range(6000):
            thing = some_thing(chance, 4, words)
            right = is_pattern_plainly(thing)
            told[right] += 1
            self.assertIs(is_pattern(thing), right, repr(thing))
        self.assertGreater(min(told), 50)

    def test_patterns_by_chance(self):
        chance = random.Random(11)
        told = [0, 0]
        for number in range(1000):
            pattern = some_pattern(chance, chance.randint(1, 50), chance.randint(1, 14))
            right = is_pattern_plainly(pattern)
            told[right] += 1
            self.assertIs(is_pattern(pattern), right, repr(pattern))
        self.assertGreater(min(told), 100)

    def test_a_far_greater_one_gets_an_answer(self):
        thing = STAY
        for number in range(5000):
            thing = then(thing, thing)
        self.assertIs(is_pattern(thing), False)


class Counted(unittest.TestCase):
    def test_parts_and_leaves(self):
        for leaf in LEAVES:
            self.assertEqual((parts_in(leaf), leaves_in(leaf)), (1, 1))
            self.assertEqual((parts_in(many(leaf)), leaves_in(many(leaf))), (2, 1))
        for joint in (then, either):
            self.assertEqual((parts_in(joint()), leaves_in(joint())), (1, 0))
            self.assertEqual((parts_in(joint(joint())), leaves_in(joint(joint()))), (2, 0))
            self.assertEqual((parts_in(joint(STAY, on("a"), STAY)), leaves_in(joint(STAY, on("a"), STAY))), (4, 3))

    def test_each_counts_as_often_as_it_stands(self):
        part = either(on("a"), many(on("a")), then())
        pattern = then(part, part, many(part))
        self.assertEqual(parts_in(part), 5)
        self.assertEqual(leaves_in(part), 2)
        self.assertEqual(parts_in(pattern), 17)
        self.assertEqual(leaves_in(pattern), 6)

    def test_against_the_plain_count(self):
        chance = random.Random(12)

        def leaves(pattern):
            if pattern[0] in ("then", "either"):
                return sum(leaves(part) for part in pattern[1])
            return leaves(pattern[1]) if pattern[0] == "many" else 1

        for number in range(300):
            pattern = some_pattern(chance, chance.randint(1, 60), chance.randint(1, 14))
            self.assertEqual(parts_in(pattern), form_plainly(pattern)[0])
            self.assertEqual(leaves_in(pattern), leaves(pattern))


class Named(unittest.TestCase):
    PATTERN = then(
        on("zoo"), back("b"), on("*"), either(many(on("b")), back("*"), ("at", "red"), ("off", "blue"), on("at")),
        ("off", "red"), ("at", "zoo"), STAY, then())

    def test_words_sorted_each_once_without_the_star(self):
        self.assertEqual(words_in(self.PATTERN), ["at", "b", "zoo"])

    def test_marks_sorted_each_once(self):
        self.assertEqual(marks_in(self.PATTERN), ["blue", "red", "zoo"])

    def test_as_many_as_may_be(self):
        names = ["q", "zz", "b", "aa", "m", "c", "z", "ab", "k", "a", "on", "x", "abcdefgh", "f", "many", "y", "az", "d"]
        self.assertEqual(words_in(then(*[on(name) for name in names * 2])), sorted(names))
        self.assertEqual(marks_in(either(*[("off", name) for name in names * 2])), sorted(names))

    def test_none(self):
        for pattern in (STAY, then(), either(), many(STAY), on("*"), then(on("*"), back("*"))):
            self.assertEqual((words_in(pattern), marks_in(pattern)), ([], []))
        self.assertEqual((words_in(("at", "a")), marks_in(on("a"))), ([], []))

    def test_they_are_lists_of_the_askers_own(self):
        for ask in (words_in, marks_in):
            told = ask(self.PATTERN)
            before = list(told)
            self.assertIs(type(told), list)
            told.append("more")
            told[0] = "changed"
            self.assertEqual(ask(self.PATTERN), before)
            ask(self.PATTERN).clear()
            self.assertEqual(ask(self.PATTERN), before)
            ask(STAY).append("more")
            self.assertEqual(ask(STAY), [])


class Greater(unittest.TestCase):
    def test_wide_ones(self):
        pattern = then(*[either(on("b"), back("a"), ("at", "m"), ("off", "n"))] * 5000)
        self.assertEqual((parts_in(pattern), leaves_in(pattern)), (25001, 20000))
        self.assertEqual((words_in(pattern), marks_in(pattern)), (["a", "b"], ["m", "n"]))
        self.assertIs(is_pattern(pattern), False)

    def test_deep_ones(self):
        pattern = nested(3000, then(on("a"), ("at", "m")))
        self.assertEqual((parts_in(pattern), leaves_in(pattern)), (3002, 2))
        self.assertEqual((words_in(pattern), marks_in(pattern)), (["a"], ["m"]))
        self.assertIs(is_pattern(pattern), False)


if __name__ == "__main__":
    unittest.main()
