import copy
import random
import unittest

from pathask.errors import GoesRound
from pathask.fitting import fits
from pathask.patterns import is_pattern, leaves_in, marks_in, parts_in, words_in
from pathask.rules import order_of, told_ties, unfolded
from pathask.ways import is_way
from pathask.webs import Web, web_of
from plainly import (
    STAY, all_ways, back, eight_knots, either, end_plainly, fits_plainly, many, on, pairs_plainly,
    plain_lengths_plainly, refused, some_pattern, some_rules, some_web, then, web_with, with_ties)


def row_web():
    return web_with(
        {"a": ["m"], "b": [], "c": ["m"], "d": ["n"]},
        [("a", "u", "b"), ("b", "u", "c"), ("c", "v", "d"), ("d", "v", "d")])


class ToldTies(unittest.TestCase):
    def assert_told(self, web, rules):
        rows = web.rows()
        kept = copy.deepcopy((rows, rules))
        told = told_ties(web, rules)
        self.assertEqual((web.rows(), rules), kept)
        self.assertIs(type(told), list)
        grown = web
        for entry in told:
            self.assertEqual((type(entry), len(entry)), (tuple, 2))
            tie, way = entry
            self.assertEqual((type(tie), len(tie)), (tuple, 3))
            self.assertIs(grown.has_tie(*tie), False, (rows, rules, tie))
            self.assertIs(is_way(grown, way), True, (rows, rules, tie, way))
            self.assertEqual((way[0], end_plainly(way)), (tie[0], tie[2]))
            fitting = [fits_plainly(grown, pattern, way) for word, pattern in rules if word == tie[1]]
            self.assertIn(True, fitting, (rows, rules, tie, way))
            grown = web_of(with_ties(grown.rows(), [tie]))
        self.assertEqual(sorted(tie for tie, way in told), sorted(plain_lengths_plainly(rows, rules)), (rows, rules))
        return sorted(tie for tie, way in told)

    def test_no_rules(self):
        self.assertEqual(told_ties(row_web(), []), [])
        self.assertEqual(told_ties(Web(), [("r", on("u"))]), [])

    def test_one_rule(self):
        web = row_web()
        self.assertEqual(told_ties(web, [("r", then(on("u"), on("u")))]), [
            (("a", "r", "c"), ("a", (("on", "u", "b"), ("on", "u", "c"))))])
        self.assertEqual(self.assert_told(web, [("r", back("v"))]), [("d", "r", "c"), ("d", "r", "d")])
        self.assertEqual(self.assert_told(web, [("r", either())]), [])

    def test_one_that_fits_ways_without_steps(self):
        web = row_web()
        self.assertEqual(told_ties(web, [("r", ("at", "m"))]), [
            (("a", "r", "a"), ("a", ())), (("c", "r", "c"), ("c", ()))])
        self.assertEqual(self.assert_told(web, [("r", STAY)]), [(knot, "r", knot) for knot in "abcd"])
        self.assertEqual(len(self.assert_told(web, [("r", many(on("u")))])), 7)

    def test_a_word_of_the_webs_own_ties(self):
        web = row_web()
        self.assertEqual(self.assert_told(web, [("u", on("u"))]), [])
        self.assertEqual(self.assert_told(web, [("u", then(on("u"), on("u")))]), [("a", "u", "c")])
        self.assertEqual(self.assert_told(web, [("v", STAY)]), [("a", "v", "a"), ("b", "v", "b"), ("c", "v", "c")])
        self.assertEqual(self.assert_told(web, [("u", then(on("u"), on("v")))]), [("b", "u", "d")])

    def test_rules_that_go_by_their_own_word(self):
        web = row_web()
        chain = [("r", on("u")), ("r", then(on("r"), on("r")))]
        self.assertEqual(self.assert_told(web, chain), [("a", "r", "b"), ("a", "r", "c"), ("b", "r", "c")])
        self.assertEqual(self.assert_told(web, [("r", on("r"))]), [])
        self.assertEqual(self.assert_told(web, [("r", either(on("u"), back("r")))]), [
            ("a", "r", "b"), ("b", "r", "a"), ("b", "r", "c"), ("c", "r", "b")])
        self.assertEqual(len(self.assert_told(web, [("v", either(back("v"), then(on("v"), on("v"))))])), 2)

    def test_rules_that_go_by_one_another(self):
        web = row_web()
        rules = [("r", then(on("u"), on("s"))), ("s", either(on("u"), then(on("r"), on("v"))))]
        self.assertEqual(self.assert_told(web, rules), [
            ("a", "r", "c"), ("a", "s", "b"), ("a", "s", "d"), ("b", "s", "c")])
        self.assertEqual(self.assert_told(web, [("r", on("s")), ("s", on("r"))]), [])
        rules = [("r", on("s")), ("s", on("p")), ("p", on("q")), ("q", on("*"))]
        self.assertEqual(len(self.assert_told(web, rules)), 16)

    def test_words_alike(self):
        web = row_web()
        rules = [("r", on("u")), ("r", on("v")), ("r", then(on("u"), on("u"))), ("r", on("u"))]
        self.assertEqual(self.assert_told(web, rules), [
            ("a", "r", "b"), ("a", "r", "c"), ("b", "r", "c"), ("c", "r", "d"), ("d", "r", "d")])

    def test_the_star_is_any_rules_word_too(self):
        web = web_with({"a": [], "b": [], "c": []}, [("a", "u", "b"), ("b", "u", "c")])
        self.assertEqual(self.assert_told(web, [("r", then(on("*"), on("*")))]), [("a", "r", "c")])
        self.assertEqual(self.assert_told(web, [("r", back("u")), ("s", then(on("*"), on("*")))]), sorted(
            [("b", "r", "a"), ("c", "r", "b")] + [(one, "s", other) for one in "abc" for other in "abc"]))
        self.assertEqual(len(self.assert_told(web, [("r", either(back("*"), then(on("*"), on("*"))))])), 9)

    def test_by_chance(self):
        chance = random.Random(81)
        told = 0
        for number in range(250):
            web = some_web(chance, chance.randint(1, 4), chance.randint(0, 6), ("u", "v", "r"))
            told += len(self.assert_told(web, some_rules(chance, 4)))
        self.assertGreater(told, 500)

    def test_eight_knots_and_forty_ties(self):
        chance = random.Random(82)
        web = eight_knots(chance)
        self.assert_told(web, [
            ("r", then(on("u"), ("at", "m"), on("v"))), ("s", then(on("r"), back("r"), ("off", "n")))])
        self.assertEqual(len(self.assert_told(web, [
            ("p", many(on("*"))), ("q", many(then(on("p"), back("p")))), ("r", on("q")),
            ("s", then(*[on("r")] * 8))])), 256)

    def test_a_told_list_is_the_askers_own(self):
        web = row_web()
        rules = [("r", many(on("u")))]
        told_ties(web, rules).clear()
        self.assertEqual(len(self.assert_told(web, rules)), 7)
        rules.append(("s", on("r")))
        self.assertEqual(len(self.assert_told(web, rules)), 14)


def leads_plainly(rules):
    words = {word for word, pattern in rules}
    leads = {word: set() for word in words}
    for word, pattern in rules:
        shown = repr(pattern)
        for other in words:
            if "'step', 'on', '%s'" % other in shown or "'step', 'back', '%s'" % other in shown or "'*'" in shown:
                leads[word].add(other)
    return leads


class Case(unittest.TestCase):
    def assert_order(self, rules):
        kept = copy.deepcopy(rules)
        order = order_of(rules)
        self.assertEqual(rules, kept)
        leads = leads_plainly(rules)
        self.assertIs(type(order), list)
        self.assertEqual(sorted(order), sorted(leads))
        for place, word in enumerate(order):
            self.assertLessEqual(leads[word], set(order[:place]), (rules, order))
        return order

    def assert_round(self, ask, rules):
        kept = copy.deepcopy(rules)
        refusal = refused(ask)
        self.assertEqual(rules, kept)
        self.assertIsNotNone(refusal, rules)
        self.assertIs(refusal[0], GoesRound)
        ring = refusal[1]
        self.assertIs(type(ring), list)
        self.assertEqual(len(set(ring)), len(ring))
        leads = leads_plainly(rules)
        for word, behind in zip(ring, ring[1:] + ring[:1]):
            self.assertIn(behind, leads[word], (rules, ring))
        self.assertGreater(len(ring), 0)
        return ring


class OrderOf(Case):
    def test_rules_that_do_not_go_round(self):
        self.assertEqual(order_of([]), [])
        self.assertEqual(order_of([("r", STAY)]), ["r"])
        self.assertEqual(order_of([("r", on("u"))]), ["r"])
        self.assertEqual(order_of([("r", on("s")), ("s", on("u"))]), ["s", "r"])
        self.assertEqual(order_of([("s", on("u")), ("r", back("s"))]), ["s", "r"])
        rules = [("p", on("q")), ("q", on("r")), ("r", on("s")), ("s", on("u"))]
        self.assertEqual(order_of(rules), ["s", "r", "q", "p"])
        self.assert_order([("p", then(on("q"), on("r"))), ("q", many(on("s"))), ("r", either(back("s"))), ("s", STAY)])

    def test_words_alike_are_told_once(self):
        self.assertEqual(order_of([("r", on("u")), ("r", on("v")), ("r", on("u"))]), ["r"])
        self.assertEqual(order_of([("r", on("u")), ("s", STAY), ("r", on("s"))]), ["s", "r"])
        self.assertEqual(order_of([("r", on("s")), ("s", on("u")), ("r", on("u")), ("s", on("v"))]), ["s", "r"])

    def test_a_word_that_leads_to_itself(self):
        for pattern in (on("r"), back("r"), many(on("r")), then(on("u"), either(STAY, back("r"))),
                        then(either(), on("r"))):
            rules = [("r", pattern)]
            self.assertEqual(self.assert_round(lambda: order_of(rules), rules), ["r"])
        rules = [("r", on("u")), ("r", on("r"))]
        self.assertEqual(self.assert_round(lambda: order_of(rules), rules), ["r"])

    def test_the_star_leads_to_each_rules_word(self):
        for pattern in (on("*"), back("*"), many(then(on("u"), on("*")))):
            rules = [("r", pattern)]
            self.assertEqual(self.assert_round(lambda: order_of(rules), rules), ["r"])
        rules = [("s", on("u")), ("r", on("*"))]
        self.assertEqual(self.assert_round(lambda: order_of(rules), rules), ["r"])

    def test_rings_of_several_words(self):
        for rules in (
                [("r", on("s")), ("s", on("r"))], [("p", on("q")), ("q", on("r")), ("r", back("p"))],
                [("p", on("q")), ("q", on("r")), ("r", on("s")), ("s", on("p"))],
                [("r", on("s")), ("s", on("u")), ("s", on("r"))]):
            ring = self.assert_round(lambda: order_of(rules), rules)
            self.assertEqual(sorted(ring), sorted({word for word, pattern in rules}))

    def test_a_word_that_leads_to_a_ring_and_is_not_in_it(self):
        for rules, right in (
                ([("p", on("r")), ("r", on("s")), ("s", on("r"))], ["r", "s"]),
                ([("r", on("s")), ("s", on("r")), ("p", on("r"))], ["r", "s"]),
                ([("p", on("q")), ("q", on("r")), ("r", on("r"))], ["r"]),
                ([("p", on("q")), ("q", then(on("r"), on("s"))), ("r", STAY), ("s", on("q"))], ["q", "s"])):
            self.assertEqual(sorted(self.assert_round(lambda: order_of(rules), rules)), right)

    def test_words_of_no_rule_do_not_matter(self):
        self.assertEqual(order_of([("r", then(on("u"), on("v"), back("w")))]), ["r"])
        # A mark may have the name of a rule's word.
        self.assertEqual(order_of([("r", ("at", "r"))]), ["r"])

    def test_by_chance(self):
        chance = random.Random(83)
        told = [0, 0]
        for number in range(300):
            rules = some_rules(chance, 4, "pqrs", ("p", "q", "s", "u"), 5)
            rules = [(word, pattern) for word, pattern in rules if chance.random() < 0.2 or "'*'" not in repr(pattern)]
            if refused(order_of, rules):
                self.assert_round(lambda: order_of(rules), rules)
                self.assert_round(lambda: unfolded(STAY, rules), rules)
                told[0] += 1
            else:
                self.assert_order(rules)
                told[1] += 1
        self.assertGreater(min(told), 50)

    def test_what_was_told_is_the_askers_own(self):
        rules = [("r", on("s")), ("s", on("u"))]
        order_of(rules).clear()
        self.assertEqual(order_of(rules), ["s", "r"])


def parts_plainly(pattern):
    if pattern[0] == "many":
        return 1 + parts_plainly(pattern[1])
    return 1 + sum(parts_plainly(part) for part in pattern[1]) if pattern[0] in ("then", "either") else 1


class Unfolded(Case):
    def assert_unfolded(self, pattern, rules, web):
        rows = web.rows()
        kept = copy.deepcopy((rows, pattern, rules))
        told = unfolded(pattern, rules)
        self.assertEqual((web.rows(), pattern, rules), kept)
        grown = with_ties(rows, plain_lengths_plainly(rows, rules))
        right = pairs_plainly(grown, pattern)
        self.assertEqual(pairs_plainly(rows, told), right, (rows, pattern, rules, told))
        for way in all_ways(web, 2):
            fitting = fits(web, told, way)
            self.assertIs(fitting, fits_plainly(web, told, way))
            if fitting:
                self.assertIn((way[0], end_plainly(way)), right)
        self.assertEqual(parts_in(told), parts_plainly(told))
        return right

    def test_words_of_rules_on_and_back(self):
        web = row_web()
        rules = [("r", then(on("u"), on("u"))), ("s", then(on("v"), ("at", "n")))]
        self.assertEqual(self.assert_unfolded(on("r"), rules, web), [("a", "c")])
        self.assertEqual(self.assert_unfolded(back("r"), rules, web), [("c", "a")])
        self.assertEqual(self.assert_unfolded(then(on("r"), on("s")), rules, web), [("a", "d")])
        self.assertEqual(self.assert_unfolded(then(back("s"), back("r")), rules, web), [("d", "a")])
        self.assert_unfolded(many(either(on("r"), back("s"), on("u"))), rules, web)

    def test_a_pattern_without_rules_words(self):
        web = row_web()
        for pattern in (STAY, on("u"), many(either(on("u"), ("at", "m"))), either(), then(), on("*")):
            self.assert_unfolded(pattern, [], web)
            self.assert_unfolded(pattern, [("r", back("u"))], web)

    def test_the_star(self):
        web = row_web()
        rules = [("r", then(on("u"), on("u"))), ("s", back("r"))]
        self.assertEqual(self.assert_unfolded(on("*"), rules, web), [
            ("a", "b"), ("a", "c"), ("b", "c"), ("c", "a"), ("c", "d"), ("d", "d")])
        self.assertEqual(self.assert_unfolded(back("*"), rules, web), [
            ("a", "c"), ("b", "a"), ("c", "a"), ("c", "b"), ("d", "c"), ("d", "d")])
        self.assert_unfolded(then(on("*"), ("off", "n"), back("*")), rules, web)

    def test_rules_over_rules(self):
        web = row_web()
        rules = [("p", then(on("q"), on("v"))), ("q", then(on("r"), on("r"))), ("r", on("u"))]
        self.assertEqual(self.assert_unfolded(on("p"), rules, web), [("a", "d")])
        self.assertEqual(self.assert_unfolded(back("p"), rules, web), [("d", "a")])
        rules = [("p", then(back("v"), back("q"))), ("q", then(back("r"), back("r"))), ("r", back("u"))]
        self.assertEqual(self.assert_unfolded(on("p"), rules, web), [("d", "a")])
        self.assertEqual(self.assert_unfolded(back("p"), rules, web), [("a", "d")])

    def test_words_alike(self):
        web = row_web()
        rules = [("r", then(on("u"), on("u"))), ("s", on("r")), ("r", on("v")), ("s", back("v"))]
        self.assertEqual(self.assert_unfolded(on("r"), rules, web), [("a", "c"), ("c", "d"), ("d", "d")])
        self.assert_unfolded(then(on("s"), back("s"), ("at", "m")), rules, web)

    def test_rules_that_fit_ways_without_steps(self):
        web = row_web()
        rules = [("r", ("at", "m")), ("s", many(on("r"))), ("t", either())]
        for pattern in (on("r"), back("r"), on("s"), on("t"), back("t"), then(on("r"), on("u")), on("*")):
            self.assert_unfolded(pattern, rules, web)

    def test_by_chance(self):
        chance = random.Random(84)
        told, pairs = 0, 0
        for number in range(400):
            rules = [("pqrs"[place], some_pattern(chance, chance.randint(1, 6), 10, ("pqrs"[:place] + "uv")))
                     for place in range(chance.randint(1, 4))]
            rules = [(word, pattern) for word, pattern in rules if "'*'" not in repr(pattern)]
            chance.shuffle(rules)
            web = some_web(chance, chance.randint(1, 3), chance.randint(1, 5))
            pattern = some_pattern(chance, chance.randint(1, 6), 10, ("p", "q", "r", "s", "u"))
            if not refused(order_of, rules):
                pairs += len(self.assert_unfolded(pattern, rules, web))
                told += 1
        self.assertGreater(told, 200)
        self.assertGreater(pairs, 200)

    def test_one_greater_than_a_pattern_may_be(self):
        web = web_with({"a": ["m"], "b": []}, [("a", "u", "b"), ("b", "u", "a"), ("a", "v", "a")])
        rules = [("p", then(*[on("u")] * 6, ("at", "m"), ("off", "n"))), ("q", then(*[on("p")] * 7, back("v"))),
                 ("r", then(*[on("q")] * 8)), ("s", many(then(on("r"), back("r"))))]
        told = unfolded(then(on("r"), many(back("s"))), rules)
        self.assertIs(is_pattern(told), False)
        self.assertGreater(leaves_in(told), 1000)
        self.assertEqual(parts_in(told), parts_plainly(told))
        self.assertEqual((words_in(told), marks_in(told)), (["u", "v"], ["m", "n"]))
        once = (("on", "u", "b"), ("on", "u", "a")) * 21 + (("back", "v", "a"),)
        self.assertIs(fits(web, told, ("a", once * 8)), True)
        self.assertIs(fits(web, told, ("a", once * 7)), False)
        self.assertIs(fits(web, told, ("a", once[:60])), False)
        self.assertEqual(pairs_plainly(web.rows(), told), [("a", "a")])

    def test_eight_leaves_in_each_of_four_rules(self):
        web = web_with({"a": []}, [("a", "u", "a")])
        rules = [(word, then(*[on(other)] * 8)) for word, other in ("pq", "qr", "rs", "su")]
        told = unfolded(then(*[either(on("p"), STAY)] * 4), rules)
        self.assertEqual(leaves_in(told), 4 * 4096 + 4)
        self.assertEqual(words_in(told), ["u"])
        self.assertIs(fits(web, told, ("a", ())), True)
        self.assertIs(fits(web, told, ("a", (("on", "u", "a"),) * 60)), False)
        self.assertIs(fits(web, told, ("a", (("on", "u", "a"),) * 4096)), True)

    def test_rules_that_go_round(self):
        for rules in (
                [("r", on("r"))], [("r", on("s")), ("s", on("r"))], [("r", on("*"))], [("q", on("r")), ("r", on("r"))]):
            for pattern in (STAY, on("u"), on("r"), on("*"), either()):
                self.assert_round(lambda: unfolded(pattern, rules), rules)


if __name__ == "__main__":
    unittest.main()
