import copy
import random
import unittest

from pathask.errors import NoTie, TooLong
from pathask.fitting import fits
from pathask.lengths import plain_lengths, plain_way
from pathask.rules import told_ties, unfolded
from pathask.ways import is_way
from pathask.webs import Web
from plainly import (
    STAY, back, eight_knots, either, end_plainly, many, on, plain_lengths_plainly, refused, some_rules, some_web, then,
    web_with)


def row_web():
    return web_with(
        {"a": ["m"], "b": [], "c": ["m"], "d": ["n"]},
        [("a", "u", "b"), ("b", "u", "c"), ("c", "v", "d"), ("d", "v", "d")])


def loop_web():
    return web_with({"a": []}, [("a", "u", "a")])


def eightfold(words):
    """Rules that each go eight times by the word behind it."""
    return [(word, then(*[on(other)] * 8)) for word, other in zip(words, words[1:])]


def some_steps(chance, words):
    return then(*[chance.choice([on, back])(chance.choice(words)) for each in range(chance.randint(1, 3))])


class Spans:
    """Which pieces of a way, from place to place on it, are plain ways of which rules' words, on and backwards."""

    def __init__(self, rows, rules, way):
        self.ties = rows[1]
        self.marks = dict(rows[0])
        self.way = way
        self.knots = [way[0]] + [step[2] for step in way[1]]
        self.found = set()
        grown = True
        while grown:
            more = set()
            for word, pattern in rules:
                for ahead in (True, False):
                    for first, last in self.gone(pattern, ahead):
                        tie = (self.knots[first], word, self.knots[last])
                        if tie not in self.ties:
                            more.add((word, first, last))
            grown = not more <= self.found
            self.found |= more

    def gone(self, pattern, ahead):
        places = range(len(self.knots))
        if pattern[0] == "step":
            steps = self.by_step(pattern[1], ahead)
            return {(first, last) for word, first, last in steps if pattern[2] in ("*", word)}
        if pattern[0] in ("at", "off"):
            return {(place, place) for place in places
                    if (pattern[1] in self.marks[self.knots[place]]) == (pattern[0] == "at")}
        if pattern[0] == "either":
            return {span for part in pattern[1] for span in self.gone(part, ahead)}
        found = {(place, place) for place in places}
        if pattern[0] == "then":
            for part in pattern[1]:
                found = joined(found, self.gone(part, ahead))
        if pattern[0] == "many":
            once = self.gone(pattern[1], ahead)
            for place in places:
                found = found | joined(found, once)
        return found

    def by_step(self, side, ahead):
        """Tuples (word, from, to): by the way's own steps, on or backwards, and by what stands for pieces of it."""
        found = set()
        for place, step in enumerate(self.way[1]):
            if (step[0] == side) == ahead:
                found.add((step[1], place, place + 1) if ahead else (step[1], place + 1, place))
        for word, first, last in self.found:
            span = (first, last) if side == "on" else (last, first)
            if span[0] == span[1] or (span[0] < span[1]) == ahead:
                found.add((word,) + span)
        return found


def joined(firsts, lasts):
    return {(one, other) for one, middle in firsts for again, other in lasts if again == middle}


class Case(unittest.TestCase):
    def assert_lengths(self, web, rules):
        kept = copy.deepcopy((web.rows(), rules))
        told = plain_lengths(web, rules)
        self.assertEqual((web.rows(), rules), kept)
        self.assertIs(type(told), list)
        self.assertEqual(told, sorted(plain_lengths_plainly(web.rows(), rules).items()), (web.rows(), rules))
        for entry in told:
            self.assertEqual((type(entry), type(entry[0]), type(entry[1])), (tuple, tuple, int))
        return dict(told)

    def assert_plain_way(self, web, rules, tie, length, spans=True):
        kept = copy.deepcopy((web.rows(), rules))
        way = plain_way(web, rules, tie)
        self.assertEqual((web.rows(), rules), kept)
        self.assertIs(is_way(web, way), True, (web.rows(), rules, tie, way))
        self.assertEqual((way[0], end_plainly(way), len(way[1])), (tie[0], tie[2], length), (web.rows(), rules, way))
        if spans:
            self.assertIn((tie[1], 0, length), Spans(web.rows(), rules, way).found, (web.rows(), rules, tie, way))
        return way


class PlainLengths(Case):
    def test_no_rules(self):
        self.assertEqual(plain_lengths(row_web(), []), [])
        self.assertEqual(plain_lengths(Web(), [("r", STAY)]), [])

    def test_sorted(self):
        self.assertEqual(plain_lengths(row_web(), [("s", then(on("u"), on("u"))), ("r", on("*"))]), [
            (("a", "r", "b"), 1), (("a", "r", "c"), 2), (("a", "s", "c"), 2), (("b", "r", "c"), 1),
            (("c", "r", "d"), 1), (("d", "r", "d"), 1)])

    def test_ties_whose_shortest_plain_way_has_no_steps(self):
        web = row_web()
        told = self.assert_lengths(web, [("r", many(on("u"))), ("s", then(on("r"), back("r"))), ("q", ("at", "m"))])
        self.assertEqual([told[("b", "r", "b")], told[("b", "s", "b")], told[("a", "q", "a")]], [0, 0, 0])
        told = self.assert_lengths(web, [("r", STAY), ("s", then(*[on("r")] * 8, on("u"), *[back("r")] * 8))])
        self.assertEqual(told[("a", "s", "b")], 1)

    def test_a_tie_of_the_web_is_one_step_even_where_a_rule_would_make_it_shorter(self):
        web = row_web()
        told = self.assert_lengths(web, [("v", STAY), ("r", then(on("v"), on("v")))])
        self.assertEqual((told[("a", "r", "a")], told[("d", "r", "d")]), (0, 2))
        self.assertNotIn(("d", "v", "d"), told)

    def test_ties_over_ties_on_and_back(self):
        web = row_web()
        told = self.assert_lengths(web, [
            ("r", then(on("u"), on("u"))), ("s", then(back("r"), on("u"))), ("q", then(on("s"), back("s"), back("r")))])
        self.assertEqual(told, {("a", "r", "c"): 2, ("c", "s", "b"): 3, ("c", "q", "a"): 8})

    def test_the_shortest_of_several_rules_and_of_several_ways(self):
        web = row_web()
        told = self.assert_lengths(web, [
            ("r", then(on("u"), on("u"), on("v"), on("v"))), ("r", then(on("u"), on("u"), on("v")))])
        self.assertEqual(told, {("a", "r", "d"): 3})
        told = self.assert_lengths(web, [("r", then(many(on("*")), ("at", "n")))])
        self.assertEqual(told[("a", "r", "d")], 3)

    def test_rules_that_go_round(self):
        web = row_web()
        told = self.assert_lengths(web, [("r", either(on("u"), on("v"), then(on("r"), on("r")), back("r")))])
        self.assertEqual((told[("a", "r", "d")], told[("d", "r", "a")], told[("a", "r", "a")]), (3, 3, 2))
        self.assert_lengths(web, [("r", either(on("*"), back("*"))), ("s", then(on("*"), on("*")))])

    def test_lengths_that_grow_great(self):
        told = self.assert_lengths(loop_web(), eightfold("pqrsu"))
        self.assertEqual(told, {("a", "s", "a"): 8, ("a", "r", "a"): 64, ("a", "q", "a"): 512, ("a", "p", "a"): 4096})

    def test_lengths_that_grow_very_great(self):
        # Each knot's tie goes eight times by the tie of the knot ahead of it, and so round all words.
        knots = "abcdefgh"
        ties = [(one, "u", other) for one, other in zip(knots, knots[1:])] + [("a", "v", "a")]
        around = then(back("u"), *[on("r")] * 6, on("u"))
        web = web_with({knot: [] for knot in knots}, ties)
        told = self.assert_lengths(web, [("r", on("v")), ("r", around), ("s", then(*[on("r")] * 8))])
        self.assertGreater(told[("h", "s", "h")], 6 ** 7 * 8)

    def test_by_chance(self):
        chance = random.Random(91)
        told = {}
        for number in range(300):
            web = some_web(chance, chance.randint(1, 4), chance.randint(0, 6), ("u", "v", "r"))
            for length in self.assert_lengths(web, some_rules(chance, 4)).values():
                told[length] = told.get(length, 0) + 1
        self.assertGreater(min(told[length] for length in range(3)), 10)

    def test_eight_knots_and_forty_ties(self):
        web = eight_knots(random.Random(92))
        self.assert_lengths(web, [
            ("p", then(on("u"), ("at", "m"), on("v"))), ("q", then(on("p"), back("p"), ("off", "n"), on("*"))),
            ("r", then(on("q"), on("s"), on("q"))),
            ("s", either(then(on("p"), on("u"), on("p")), then(on("r"), on("r"))))])

    def test_just_the_ties_that_are_told(self):
        chance = random.Random(93)
        for number in range(100):
            web = some_web(chance, 3, 5, ("u", "v", "r"))
            rules = some_rules(chance, 4)
            ties = [tie for tie, way in told_ties(web, rules)]
            self.assertEqual([tie for tie, length in plain_lengths(web, rules)], sorted(ties))


class PlainWay(Case):
    def test_of_a_tie_of_the_web(self):
        web = row_web()
        for rules in ([], [("u", then(on("u"), on("u")))], [("v", STAY)]):
            self.assertEqual(plain_way(web, rules, ("a", "u", "b")), ("a", (("on", "u", "b"),)))
            self.assertEqual(plain_way(web, rules, ("d", "v", "d")), ("d", (("on", "v", "d"),)))

    def test_of_a_tie_of_a_rule(self):
        web = row_web()
        rules = [("r", then(on("u"), on("u"))), ("s", then(back("r"), on("u"))), ("t", back("s"))]
        self.assertEqual(plain_way(web, rules, ("a", "r", "c")), ("a", (("on", "u", "b"), ("on", "u", "c"))))
        self.assertEqual(plain_way(web, rules, ("c", "s", "b")), (
            "c", (("back", "u", "b"), ("back", "u", "a"), ("on", "u", "b"))))
        self.assertEqual(plain_way(web, rules, ("b", "t", "c")), (
            "b", (("back", "u", "a"), ("on", "u", "b"), ("on", "u", "c"))))

    def test_without_steps(self):
        web = row_web()
        rules = [("r", many(on("u"))), ("s", then(on("r"), back("r")))]
        for knot in "abcd":
            self.assertEqual(plain_way(web, rules, (knot, "r", knot)), (knot, ()))
            self.assertEqual(plain_way(web, rules, (knot, "s", knot)), (knot, ()))

    def test_no_tie(self):
        web = row_web()
        rules = [("r", then(on("u"), on("u")))]
        for tie in [("a", "x", "b"), ("x", "u", "b"), ("a", "u", "x"), ("b", "u", "a"), ("c", "r", "a"), ("a", "r", "x"),
                    ("x", "r", "c"), ("a", "r", "b"), ("a", "u", "c"), ("x", "y", "z")]:
            self.assertEqual(refused(plain_way, web, rules, tie), (NoTie, tie))
            self.assertEqual(refused(plain_way, web, [], tie), (NoTie, tie))
        self.assertEqual(refused(plain_way, Web(), [("r", STAY)], ("a", "r", "a")), (NoTie, ("a", "r", "a")))

    def test_too_long(self):
        web = loop_web()
        self.assertEqual(refused(plain_way, web, eightfold("pqrsu"), ("a", "p", "a")), (TooLong, 4096))
        self.assert_plain_way(web, eightfold("pqrsu"), ("a", "q", "a"), 512, False)

    def test_a_thousand_steps_and_one_more(self):
        web = loop_web()
        ten = [(word, then(*[on(other)] * 10)) for word, other in ("pq", "qr", "ru")]
        way = self.assert_plain_way(web, ten, ("a", "p", "a"), 1000, False)
        self.assertEqual(set(way[1]), {("on", "u", "a")})
        self.assertIs(fits(web, unfolded(on("p"), ten), way), True)
        more = [("s", then(on("p"), on("u")))] + ten
        self.assertEqual(refused(plain_way, web, more, ("a", "s", "a")), (TooLong, 1001))
        less = [("s", then(on("q"), *[on("q")] * 8, *[on("r")] * 9, *[on("u")] * 9))] + ten
        self.assert_plain_way(web, less, ("a", "s", "a"), 999, False)

    def test_long_ones_backwards(self):
        web = web_with({"a": [], "b": []}, [("a", "u", "b"), ("b", "v", "a")])
        rules = [("p", then(*[back("q")] * 8)), ("q", then(*[back("r")] * 8)), ("r", then(*[on("u"), on("v")] * 4))]
        way = self.assert_plain_way(web, rules, ("a", "p", "a"), 512, False)
        self.assertEqual(set(way[1]), {("on", "u", "b"), ("on", "v", "a")})
        way = self.assert_plain_way(web, rules, ("a", "q", "a"), 64, False)
        self.assertEqual(set(way[1]), {("back", "u", "a"), ("back", "v", "b")})
        self.assertIs(fits(web, unfolded(on("p"), rules), plain_way(web, rules, ("a", "p", "a"))), True)

    def test_many_ties_without_steps_over_one_another(self):
        web = web_with({"a": []}, [])
        rules = [("p", STAY)] + [(word, then(*[on(other)] * 8)) for word, other in ("qp", "rq", "sr")]
        self.assertEqual(plain_way(web, rules, ("a", "s", "a")), ("a", ()))

    def test_by_chance(self):
        chance = random.Random(94)
        told = {}
        for number in range(200):
            web = some_web(chance, chance.randint(1, 4), chance.randint(0, 6), ("u", "v", "r"))
            rules = some_rules(chance, 4)
            for tie, length in plain_lengths(web, rules)[:12]:
                self.assert_plain_way(web, rules, tie, length)
                told[length] = told.get(length, 0) + 1
        self.assertGreater(min(told[length] for length in range(3)), 5)

    def test_rules_that_go_round_by_chance(self):
        chance = random.Random(95)
        longest = 0
        for number in range(150):
            web = some_web(chance, 4, 6)
            rules = [("r", some_steps(chance, "uvs")), ("s", some_steps(chance, "uvr")), ("r", some_steps(chance, "v")),
                     ("s", then(on("r"), on("s"), back("u")))]
            for tie, length in plain_lengths(web, rules)[::5]:
                self.assert_plain_way(web, rules, tie, length)
                longest = max(longest, length)
        self.assertGreater(longest, 8)

    def test_nothing_hangs_on_what_was_asked_before(self):
        web = row_web()
        rules = [("r", then(on("u"), on("u")))]
        self.assertEqual(plain_lengths(web, rules), [(("a", "r", "c"), 2)])
        plain_lengths(web, rules).clear()
        self.assertEqual(plain_lengths(web, rules), [(("a", "r", "c"), 2)])
        web.put_tie("a", "r", "c")
        self.assertEqual(plain_lengths(web, rules), [])
        self.assertEqual(plain_way(web, rules, ("a", "r", "c")), ("a", (("on", "r", "c"),)))
        web.take_tie("a", "r", "c")
        web.take_tie("a", "u", "b")
        self.assertEqual(refused(plain_way, web, rules, ("a", "r", "c")), (NoTie, ("a", "r", "c")))


if __name__ == "__main__":
    unittest.main()
