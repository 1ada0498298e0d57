import copy
import random
import unittest

from pathask.counting import counted
from pathask.errors import NoKnot
from pathask.patterns import leaves_in
from pathask.webs import Web
from plainly import (
    STAY, back, either, many, on, refused, some_questions, then, twelve_knots, ways_between, web_with)

KNOTS = "abcdefghijkl"


def row_web():
    return web_with(
        {"a": ["m"], "b": [], "c": ["m", "n"]},
        [("a", "u", "b"), ("a", "v", "b"), ("b", "u", "c"), ("c", "u", "a"), ("b", "v", "b")])


def many_steps(web, counts, takes):
    """For each knot how many ways come to it by one step more, of those that takes asks for."""
    found = dict.fromkeys(KNOTS, 0)
    for knot, count in counts.items():
        for step in web.steps(knot):
            found[step[2]] += count if takes(step) else 0
    return found


class Counted(unittest.TestCase):
    def test_by_length(self):
        web = row_web()
        self.assertEqual(counted(web, on("u"), "a", "b", 1), 1)
        self.assertEqual(counted(web, on("*"), "a", "b", 1), 2)
        self.assertEqual(counted(web, on("*"), "b", "a", 1), 0)
        self.assertEqual(counted(web, back("*"), "b", "a", 1), 2)
        self.assertEqual(counted(web, then(on("*"), on("*")), "a", "b", 2), 2)
        self.assertEqual(counted(web, then(on("*"), on("*")), "a", "c", 2), 2)
        self.assertEqual(counted(web, then(on("*"), ("at", "n"), on("*")), "a", "c", 2), 0)
        self.assertEqual(counted(web, then(on("*"), ("off", "n"), on("*")), "a", "c", 2), 2)
        self.assertEqual(counted(web, then(on("*"), on("*")), "a", "c", 1), 0)
        self.assertEqual(counted(web, then(on("*"), on("*")), "a", "c", 3), 0)
        self.assertEqual(counted(web, either(), "a", "b", 1), 0)

    def test_length_nought(self):
        web = row_web()
        for pattern in (STAY, then(), many(on("*")), ("at", "m"), ("off", "o"), many(either())):
            self.assertEqual(counted(web, pattern, "a", "a", 0), 1)
            self.assertEqual(counted(web, pattern, "a", "b", 0), 0)
        for pattern in (either(), on("*"), ("at", "n"), ("off", "m")):
            self.assertEqual(counted(web, pattern, "a", "a", 0), 0)

    def test_a_way_that_fits_many_times_over_counts_once(self):
        web = row_web()
        for pattern in (
                either(on("u"), on("*"), on("u"), then(STAY, on("u"))), many(either(on("u"), on("u"))),
                then(many(on("*")), many(on("*")), many(on("*"))), many(many(on("*"))),
                either(then(("at", "m"), on("u")), then(on("u"), ("off", "m")))):
            self.assertEqual(counted(web, pattern, "a", "b", 1), len(ways_between(web, pattern, "a", "b", 1)))
        self.assertEqual(counted(web, either(on("u"), on("*"), on("u")), "a", "b", 1), 2)
        self.assertEqual(counted(web, then(many(on("u")), many(on("u"))), "a", "a", 3), 1)

    def test_a_tie_from_a_knot_to_itself_is_two_steps(self):
        web = web_with({"a": []}, [("a", "u", "a")])
        for length in range(41):
            self.assertEqual(counted(web, many(either(on("u"), back("u"))), "a", "a", length), 2 ** length)
            self.assertEqual(counted(web, many(on("u")), "a", "a", length), 1)
        self.assertEqual(counted(web, on("*"), "a", "a", 1), 1)

    def test_a_knot_without_ties(self):
        web = web_with({"a": [], "b": []}, [])
        self.assertEqual(counted(web, many(on("*")), "a", "a", 0), 1)
        self.assertEqual(counted(web, many(on("*")), "a", "a", 5), 0)
        self.assertEqual(counted(web, many(on("*")), "a", "b", 40), 0)

    def test_against_all_ways_one_by_one(self):
        some, none = 0, 0
        for web, pattern, one, other, length in some_questions(random.Random(41), 150):
            kept = copy.deepcopy((web.rows(), pattern))
            right = len(ways_between(web, pattern, one, other, length))
            told = counted(web, pattern, one, other, length)
            self.assertEqual(told, right, (web.rows(), pattern, one, other, length))
            self.assertIs(type(told), int)
            self.assertEqual((web.rows(), pattern), kept)
            some, none = some + (right > 0), none + (right == 0)
        self.assertGreater(some, 400)
        self.assertGreater(none, 400)


class CountedFarOn(unittest.TestCase):
    def test_forty_steps_of_any_tie(self):
        web = twelve_knots(random.Random(42))
        counts = {"a": 1}
        for length in range(40):
            counts = many_steps(web, counts, lambda step: True)
        for knot in KNOTS:
            self.assertEqual(counted(web, many(either(on("*"), back("*"))), "a", knot, 40), counts[knot])
        self.assertGreater(max(counts.values()), 10 ** 25)

    def test_forty_steps_with_eight_leaves(self):
        web = twelve_knots(random.Random(43))
        pattern = then(many(on("*")), on("u"), *[on("*")] * 6)
        self.assertEqual(leaves_in(pattern), 8)
        counts = {"a": 1}
        for length in range(40):
            counts = many_steps(web, counts, lambda step: step[0] == "on" and (length != 33 or step[1] == "u"))
        for knot in KNOTS:
            self.assertEqual(counted(web, pattern, "a", knot, 40), counts[knot])
        self.assertGreater(max(counts.values()), 10 ** 15)

    def test_forty_steps_with_marks(self):
        web = twelve_knots(random.Random(44))
        pattern = many(then(either(on("*"), back("u")), either(("at", "m"), ("off", "n"))))
        counts = {"a": 1}

        def is_right(step):
            marks = web.marks(step[2])
            return (step[0] == "on" or step[1] == "u") and ("m" in marks or "n" not in marks)

        for length in range(40):
            counts = many_steps(web, counts, is_right)
        for knot in KNOTS:
            self.assertEqual(counted(web, pattern, "a", knot, 40), counts[knot])
        self.assertGreater(max(counts.values()), 10 ** 15)

    def test_eight_leaves_in_forty_patterns(self):
        web = twelve_knots(random.Random(45))
        leaf = many(many(many(on("*"))))
        pattern = many(then(leaf, leaf, leaf, leaf, leaf, leaf, leaf, many(many(many(back("*"))))))
        self.assertEqual(leaves_in(pattern), 8)
        plain = many(either(on("*"), back("*")))
        self.assertEqual(counted(web, pattern, "a", "b", 40), counted(web, plain, "a", "b", 40))

    def test_ways_put_together_of_two(self):
        web = twelve_knots(random.Random(46))
        pattern = many(then(on("*"), either(("off", "m"), back("u"))))
        whole = then(pattern, pattern)
        for other in "abc":
            self.assertEqual(counted(web, whole, "a", other, 40), counted(web, pattern, "a", other, 40))


class NoKnots(unittest.TestCase):
    def test_the_first_then_the_last_one(self):
        web = row_web()
        for pattern in (on("u"), either(), STAY):
            self.assertEqual(refused(counted, web, pattern, "x", "y", 2), (NoKnot, "x"))
            self.assertEqual(refused(counted, web, pattern, "x", "a", 0), (NoKnot, "x"))
            self.assertEqual(refused(counted, web, pattern, "a", "y", 2), (NoKnot, "y"))
            self.assertEqual(refused(counted, web, pattern, "x", "x", 40), (NoKnot, "x"))
        self.assertEqual(refused(counted, Web(), STAY, "a", "b", 0), (NoKnot, "a"))

    def test_nothing_hangs_on_what_was_asked_before(self):
        web = row_web()
        self.assertEqual(counted(web, many(on("*")), "a", "b", 3), 2)
        web.take_tie("a", "v", "b")
        self.assertEqual(counted(web, many(on("*")), "a", "b", 3), 1)
        web.take_knot("a")
        self.assertEqual(refused(counted, web, many(on("*")), "a", "b", 3), (NoKnot, "a"))


if __name__ == "__main__":
    unittest.main()
