import copy
import itertools
import random
import unittest

from pathask.fitting import fits
from pathask.machines import machine_of
from pathask.patterns import leaves_in, marks_in, words_in
from pathask.ways import is_way
from pathask.webs import web_of
from pathask.within import shows, within
from plainly import (
    STAY, all_ways, back, come_plainly, either, fits_plainly, many, on, some_pattern, some_web, stepped_plainly, then)

ANY_WAY = many(either(on("*"), back("*")))

# The first one lies within the second one.
LIES = [
    (STAY, STAY), (STAY, then()), (then(), STAY), (either(), either()), (either(), STAY), (either(), on("u")),
    (on("u"), on("u")), (on("u"), on("*")), (back("v"), back("*")), (on("*"), on("*")), (on("*"), ANY_WAY),
    (("at", "m"), STAY), (("off", "m"), STAY), (STAY, either(("at", "m"), ("off", "m"))),
    (then(("at", "m"), ("off", "m")), either()), (then(("at", "m"), ("at", "n")), ("at", "m")),
    (then(("at", "m"), ("at", "n")), then(("at", "n"), ("at", "m"))),
    (STAY, many(on("u"))), (on("u"), many(on("u"))), (many(on("u")), many(either(on("u"), on("v")))),
    (many(many(on("u"))), many(on("u"))), (many(on("u")), many(many(on("u")))),
    (many(on("u")), either(many(then(on("u"), on("u"))), then(on("u"), many(then(on("u"), on("u")))))),
    (then(on("u"), either()), either()), (then(either(), on("u")), ("at", "m")), (many(either()), STAY),
    (then(on("u"), many(then(on("v"), on("u")))), then(many(then(on("u"), on("v"))), on("u"))),
    (many(either(on("u"), on("v"))), many(then(many(on("u")), many(on("v"))))),
    (then(on("*"), ("at", "m"), back("*")), then(on("*"), back("*"))),
    (on("u"), either(then(("at", "m"), on("u")), then(("off", "m"), on("u")))),
    (on("u"), either(then(on("u"), ("at", "m")), then(on("u"), ("off", "m")))),
    (then(on("u"), on("v")), either(then(on("u"), ("at", "m"), on("v")), then(on("u"), ("off", "m"), on("v")))),
    (many(either(on("*"), ("at", "m"))), many(on("*"))), (ANY_WAY, many(either(back("*"), STAY, on("*")))),
]

# The first one doesn't lie within the second one.
PARTED = [
    (STAY, either()), (then(), either()), (on("u"), either()), (STAY, on("u")), (on("u"), STAY), (on("u"), on("v")),
    (on("*"), on("u")), (on("*"), either(on("u"), on("v"))), (on("u"), back("u")), (on("*"), back("*")),
    (STAY, ("at", "m")), (STAY, ("off", "m")), (("at", "m"), ("at", "n")), (("at", "m"), ("off", "m")),
    (("at", "m"), then(("at", "m"), ("at", "n"))), (STAY, either(("at", "m"), ("at", "n"))),
    (STAY, either(("off", "m"), ("off", "n"))), (STAY, either(("at", "m"), ("off", "n"))),
    (STAY, either(("off", "m"), ("at", "n"), ("off", "o"))),
    (many(on("u")), on("u")), (many(on("u")), then(on("u"), many(on("u")))),
    (many(on("u")), either(many(then(on("u"), on("u"))), on("u"), then(on("u"), on("u"), on("u")))),
    (ANY_WAY, many(on("*"))), (then(on("u"), on("v")), then(on("v"), on("u"))),
    (on("u"), then(on("u"), ("at", "m"))), (on("u"), then(("off", "m"), on("u"))),
    (many(then(on("u"), on("v"))), many(on("u"))), (many(either(on("u"), on("v"))), either(many(on("u")), many(on("v")))),
    (then(on("*"), back("*")), then(on("*"), ("at", "m"), back("*"))),
    (many(on("*")), many(either(on("u"), on("v"), on("w"), on("x")))),
]


def shows_plainly(one, other, pairs):
    first, second = machine_of(one), machine_of(other)
    if not all(0 <= stand < first[0] and all(0 <= each < second[0] for each in stands) for stand, stands in pairs):
        return False
    if not any(stand == first[1] and set(stands) <= {second[1]} for stand, stands in pairs):
        return False
    marks = sorted(set(marks_in(one)) | set(marks_in(other)))
    words = sorted(set(words_in(one)) | set(words_in(other))) + ["strange"]
    for stand, stands in pairs:
        for chosen in [some for count in range(len(marks) + 1) for some in itertools.combinations(marks, count)]:
            there, beside = come_plainly(first, [stand], chosen), come_plainly(second, stands, chosen)
            if there & set(first[2]) and not beside & set(second[2]):
                return False
            for side, word in itertools.product(("on", "back"), words):
                led = stepped_plainly(second, beside, side, word)
                for behind in stepped_plainly(first, there, side, word):
                    if not any(pair[0] == behind and set(pair[1]) <= led for pair in pairs):
                        return False
    return True


def some_small_pattern(chance, words, marks, leaves=6):
    while True:
        pattern = some_pattern(chance, chance.randint(1, 14), 10, words, marks)
        if leaves_in(pattern) <= leaves:
            return pattern


class Case(unittest.TestCase):
    def assert_yes(self, one, other):
        kept = copy.deepcopy((one, other))
        told = within(one, other)
        self.assertEqual((type(told), len(told), told[0]), (tuple, 2, "yes"), (one, other))
        self.assertIs(type(told[1]), list)
        for pair in told[1]:
            self.assertEqual((type(pair), type(pair[0]), type(pair[1])), (tuple, int, tuple))
            self.assertEqual(list(pair[1]), sorted(set(pair[1])))
        self.assertIs(shows_plainly(one, other, told[1]), True, (one, other))
        self.assertIs(shows(one, other, told[1]), True, (one, other))
        self.assertEqual((one, other), kept)
        return told[1]

    def assert_no(self, one, other):
        kept = copy.deepcopy((one, other))
        told = within(one, other)
        self.assertEqual((type(told), len(told), told[0]), (tuple, 3, "no"), (one, other))
        web = web_of(told[1])
        self.assertEqual(web.rows(), told[1])
        self.assertIs(is_way(web, told[2]), True, told)
        self.assertIs(fits_plainly(web, one, told[2]), True, (one, other, told))
        self.assertIs(fits_plainly(web, other, told[2]), False, (one, other, told))
        self.assertEqual((one, other), kept)
        return told[1:]


class Within(Case):
    def test_of_one_that_lies_within_the_other(self):
        for one, other in LIES:
            self.assert_yes(one, other)

    def test_of_one_that_does_not(self):
        for one, other in PARTED:
            self.assert_no(one, other)

    def test_either_of_none_lies_within_anything(self):
        for pair in LIES + PARTED:
            for pattern in pair:
                self.assert_yes(either(), pattern)
                self.assert_yes(pattern, pattern)
                self.assert_yes(pattern, ANY_WAY)

    def test_a_word_that_is_none_of_theirs_parts_them(self):
        for words in (["u"], ["a"], ["a", "b", "c"], ["b", "c", "a", "d"]):
            rows, way = self.assert_no(on("*"), either(*[on(word) for word in words]))
            self.assertNotIn(rows[1][0][1], words)
            self.assert_no(back("*"), either(*[back(word) for word in words]))

    def test_a_way_that_parts_them_far_on(self):
        def others(count):
            """Ways whose length is none of its manifold."""
            either_step = either(STAY, on("u"))
            return then(on("u"), *[either_step] * (count - 2), many(then(*[on("u")] * count)))

        rows, way = self.assert_no(
            then(on("u"), many(on("u"))), either(others(3), others(4), others(5)))
        self.assertEqual(len(way[1]) % 60, 0)
        self.assertGreater(len(rows[0]), 40)

    def test_by_chance(self):
        chance = random.Random(61)
        told = {"yes": 0, "no": 0}
        for number in range(400):
            words = ["u", "v", "w", "x"][:chance.randint(1, 4)]
            marks = ["m", "n", "o"][:chance.randint(1, 3)]
            one, other = [some_small_pattern(chance, words, marks) for each in range(2)]
            if number % 3 == 0:
                other = either(some_small_pattern(chance, words, marks, 2), one)
            answer = within(one, other)[0]
            told[answer] += 1
            if answer == "yes":
                self.assert_yes(one, other)
            else:
                self.assert_no(one, other)
        self.assertGreater(min(told.values()), 100)

    def test_held_against_all_short_ways_of_some_webs(self):
        chance = random.Random(62)
        for number in range(60):
            one, other = [some_small_pattern(chance, ("u", "v"), ("m", "n")) for each in range(2)]
            web = some_web(chance, 3, 4)
            if any(fits(web, one, way) and not fits(web, other, way) for way in all_ways(web, 3)):
                self.assert_no(one, other)

    def test_six_leaves_each_with_three_marks_and_four_words(self):
        loose = many(either(on("u"), on("v"), back("w"), back("x"), then(("at", "m"), on("*"))))
        narrow = many(either(on("u"), then(back("w"), ("off", "n")), then(("at", "m"), on("x"), ("at", "o"))))
        self.assertEqual((leaves_in(loose), leaves_in(narrow)), (6, 6))
        self.assert_yes(narrow, loose)
        self.assert_no(loose, narrow)
        tail = then(many(on("*")), on("u"), on("*"), on("*"), on("*"), on("*"))
        self.assert_no(then(many(either(on("u"), on("v"), on("w"), on("x"), ("at", "m"))), on("u")), tail)
        self.assert_yes(then(many(on("*")), on("u"), on("v"), on("w"), on("x"), on("*")), tail)
        marks = then(many(on("*")), ("at", "m"), on("*"), ("at", "n"), on("*"), ("at", "o"))
        self.assert_yes(then(many(on("u")), ("at", "m"), on("v"), ("at", "n"), on("w"), ("at", "o")), marks)
        self.assert_no(then(many(on("u")), ("at", "m"), on("v"), ("off", "n"), on("x"), ("at", "o")), marks)
        wide = many(then(many(on("u")), many(on("v")), many(on("w")), many(on("x")), many(back("*")), many(("at", "m"))))
        self.assert_yes(many(either(on("u"), back("v"), on("w"), back("x"), ("at", "n"), ("off", "o"))), wide)
        self.assert_no(ANY_WAY, wide)

    def test_what_was_told_is_the_askers_own(self):
        one, other = many(on("u")), many(on("*"))
        told = within(one, other)
        right = list(told[1])
        told[1].clear()
        self.assertEqual(within(one, other)[0], "yes")
        self.assertIs(shows(one, other, within(one, other)[1]), True)
        self.assertIs(shows(one, other, right), True)


class Shows(Case):
    def test_none_at_all(self):
        for one, other in LIES + PARTED:
            self.assertIs(shows(one, other, []), False)

    def test_a_pair_left_out_that_is_wanted(self):
        for one, other in LIES:
            pairs = within(one, other)[1]
            for place in range(len(pairs)):
                fewer = pairs[:place] + pairs[place + 1:]
                self.assertIs(shows(one, other, fewer), shows_plainly(one, other, fewer), (one, other, fewer))
        self.assertIs(shows(on("u"), on("*"), [(0, (0,))]), False)
        self.assertIs(shows(on("u"), on("*"), [(1, (1,))]), False)
        self.assertIs(shows(on("u"), on("*"), [(0, (0,)), (1, (1,))]), True)

    def test_in_another_order_and_some_twice(self):
        for one, other in LIES:
            pairs = within(one, other)[1]
            self.assertIs(shows(one, other, list(reversed(pairs))), True)
            self.assertIs(shows(one, other, pairs + pairs), True)
            self.assertIs(shows(one, other, [pairs[-1]] + pairs + pairs[:1]), True)

    def test_a_number_that_is_no_stand(self):
        for one, other in LIES:
            pairs = within(one, other)[1]
            stands, others = machine_of(one)[0], machine_of(other)[0]
            for bad in [(stands, (0,)), (-1, (0,)), (stands + 10 ** 9, ()), (0, (others,)), (0, (-1,)), (0, (-1, 0)),
                        (0, (0, others + 5))]:
                self.assertIs(shows(one, other, pairs + [bad]), False, (one, other, bad))
                self.assertIs(shows(one, other, [bad] + pairs), False, (one, other, bad))

    def test_a_pair_of_the_begin_and_no_stands(self):
        self.assertIs(shows(either(), on("u"), [(0, ())]), True)
        self.assertIs(shows(either(), either(), [(0, ())]), True)
        self.assertIs(shows(then(on("u"), either()), on("v"), [(0, ()), (2, ())]), True)
        self.assertIs(shows(STAY, STAY, [(0, ())]), False)
        self.assertIs(shows(on("u"), on("u"), [(0, ()), (1, (1,))]), False)
        self.assertIs(shows(on("u"), on("u"), [(0, ()), (0, (0,)), (1, (1,))]), False)

    def test_the_begin_with_another_stand_beside_is_no_begin(self):
        self.assertIs(shows(STAY, STAY, [(0, (0,))]), True)
        self.assertIs(shows(STAY, STAY, [(0, (0, 1))]), False)
        self.assertIs(shows(STAY, STAY, [(0, (1,))]), False)
        self.assertIs(shows(STAY, STAY, [(0, (0,)), (0, (0, 1))]), True)
        self.assertIs(shows(STAY, either(), [(0, (1,))]), False)

    def test_more_stands_than_a_step_leads_to(self):
        self.assertIs(shows(on("u"), on("u"), [(0, (0,)), (1, (0, 1))]), False)
        self.assertIs(shows(on("u"), on("u"), [(0, (0,)), (1, (0, 1)), (1, (1,))]), True)
        # The second one is not wanted, and yet it is one of the pairs.
        self.assertIs(shows(on("u"), on("u"), [(0, (0,)), (1, (1,)), (1, ())]), False)

    def test_a_step_by_a_word_that_is_none_of_theirs(self):
        self.assertIs(shows(on("*"), on("u"), [(0, (0,)), (1, (1,))]), False)
        self.assertIs(shows(on("*"), either(on("u"), on("a"), on("b")), [(0, (0,)), (1, (1,))]), False)
        self.assertIs(shows(on("*"), on("*"), [(0, (0,)), (1, (1,))]), True)
        self.assertIs(shows(back("*"), back("u"), [(0, (0,)), (1, (1,))]), False)

    def test_a_step_by_each_word_of_both(self):
        pairs = [(0, (0,)), (1, (1,))]
        for words in (["u"], ["u", "v"], ["u", "v", "w", "x"]):
            every = [either(*[make(word) for word in words]) for make in (on, back)]
            for place in range(len(words)):
                fewer = words[:place] + words[place + 1:]
                for make, all_of_them in zip((on, back), every):
                    self.assertIs(shows(make(words[place]), all_of_them, pairs), True)
                    self.assertIs(shows(all_of_them, either(*[make(word) for word in fewer]), pairs), False)
                    self.assertIs(shows(all_of_them, make("*"), pairs), True)

    def test_each_set_of_marks(self):
        marks = ("m", "n", "o")
        pair = [(0, (0,))]
        for chosen in itertools.product((True, False), repeat=3):
            # At a knot with just the marks chosen none of these holds, and at every other knot some does.
            leaves = [("off" if has else "at", mark) for has, mark in zip(chosen, marks)]
            lacking = then(*[("at" if has else "off", mark) for has, mark in zip(chosen, marks)])
            self.assertIs(shows(STAY, either(*leaves), pair), False)
            self.assertIs(shows(STAY, either(lacking, *leaves), pair), True)
            self.assert_no(STAY, either(*leaves))
            self.assert_yes(STAY, either(lacking, *leaves))

    def test_marks_of_the_first_one_alone_and_of_the_second_one_alone(self):
        pairs = [(0, (0,)), (1, (1,))]
        self.assertIs(shows(("at", "m"), STAY, pairs), True)
        self.assertIs(shows(STAY, ("at", "m"), pairs), False)
        self.assertIs(shows(STAY, ("off", "m"), pairs), False)
        self.assertIs(shows(("off", "n"), ("off", "m"), pairs), False)

    def test_lists_by_chance(self):
        chance = random.Random(63)
        told = [0, 0]
        for number in range(400):
            words, marks = ["u", "v"][:chance.randint(1, 2)], ["m", "n"][:chance.randint(1, 2)]
            one, other = [some_small_pattern(chance, words, marks, 4) for each in range(2)]
            if number % 2:
                other = either(other, one) if number % 4 == 1 else many(either(other, one))
            answer = within(one, other)
            pairs = list(answer[1]) if answer[0] == "yes" else []
            for change in range(chance.randint(0, 2)):
                stands = [stand for stand in range(machine_of(other)[0]) if chance.random() < 0.4]
                pairs.append((chance.randrange(machine_of(one)[0]), tuple(stands)))
            if chance.random() < 0.4 and pairs:
                pairs.pop(chance.randrange(len(pairs)))
            chance.shuffle(pairs)
            kept = copy.deepcopy(pairs)
            right = shows_plainly(one, other, pairs)
            self.assertIs(shows(one, other, pairs), right, (one, other, pairs))
            self.assertEqual(pairs, kept)
            told[right] += 1
        self.assertGreater(min(told), 60)

    def test_none_shows_what_is_not_so(self):
        for one, other in PARTED:
            stands, others = range(machine_of(one)[0]), range(machine_of(other)[0])
            every = [(stand, (each,)) for stand in stands for each in others] + [(stand, ()) for stand in stands]
            self.assertIs(shows(one, other, every), False)
            self.assertIs(shows(one, other, [(stand, tuple(others)) for stand in stands] + [(0, (0,))]), False)


if __name__ == "__main__":
    unittest.main()
