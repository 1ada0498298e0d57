"""Point 4: what the parts of the program tell of one web and some patterns, held against one another."""

import random
import unittest

from pathask.counting import counted
from pathask.desk import Desk
from pathask.errors import GoesRound
from pathask.fitting import fits
from pathask.keeping import Keeper
from pathask.lengths import plain_lengths, plain_way
from pathask.machines import goes, machine_of
from pathask.meeting import met, turned
from pathask.otherwise import alike, backwards, plainly
from pathask.patterns import leaves_in
from pathask.placing import place_of, way_at
from pathask.reaching import is_closed, pairs, reached, shortest
from pathask.rules import order_of, told_ties, unfolded
from pathask.texts import read_pattern, read_way, shown, shown_way
from pathask.ways import back_of, end_of, is_way, put_behind
from pathask.webs import web_of
from pathask.webtexts import read_web, shown_web
from pathask.within import shows, within
from plainly import all_ways, either, many, on, refused, some_pattern, some_rules, some_web, then, with_ties


def some_small_pattern(chance):
    while True:
        pattern = some_pattern(chance, chance.randint(1, 10), 10, ("u", "v"))
        if leaves_in(pattern) <= 6:
            return pattern


def cases(seed, number):
    chance = random.Random(seed)
    for each in range(number):
        web = some_web(chance, chance.randint(3, 6), chance.randint(3, 10))
        yield chance, web, [some_small_pattern(chance), many(some_small_pattern(chance)), some_small_pattern(chance)]


class PairsAndWays(unittest.TestCase):
    def test_a_pair_is_told_just_when_some_way_fits(self):
        some, none = 0, 0
        for chance, web, patterns in cases(121, 40):
            for pattern in patterns:
                machine = machine_of(pattern)
                held = pairs(web, machine)
                self.assertEqual(held, [(one, other) for one in web.knots() for other in reached(web, machine, one)])
                for one in web.knots():
                    for other in web.knots():
                        told = shortest(web, machine, one, other)
                        if (one, other) in held:
                            self.assert_shortest(web, pattern, one, other, told)
                            some += 1
                        else:
                            self.assert_none(web, pattern, one, other, told)
                            none += 1
        self.assertGreater(min(some, none), 300)

    def assert_shortest(self, web, pattern, one, other, told):
        self.assertEqual(told[0], "way")
        way = told[1]
        self.assertTrue(is_way(web, way) and fits(web, pattern, way) and goes(web, machine_of(pattern), way))
        self.assertEqual((way[0], end_of(way)), (one, other))
        length = len(way[1])
        counts = [counted(web, pattern, one, other, fewer) for fewer in range(length + 1)]
        self.assertEqual(counts[:-1], [0] * length)
        self.assertGreater(counts[-1], 0)
        place = place_of(web, pattern, way)
        self.assertEqual(way_at(web, pattern, one, other, length, place), way)
        self.assertEqual(read_way(shown_way(way)), way)
        self.assertTrue(fits(web, backwards(pattern), back_of(way)))
        self.assertTrue(goes(web, turned(machine_of(pattern)), back_of(way)))

    def assert_none(self, web, pattern, one, other, told):
        self.assertEqual(told[0], "none")
        machine = machine_of(pattern)
        self.assertIs(is_closed(web, machine, told[1]), True)
        self.assertIn((one, machine[1]), told[1])
        self.assertEqual([place for place in told[1] if place[0] == other and place[1] in machine[2]], [])
        self.assertEqual([counted(web, pattern, one, other, length) for length in range(12)], [0] * 12)

    def test_counts_are_those_of_plain_going(self):
        for chance, web, patterns in cases(122, 15):
            ways = all_ways(web, 2)
            for pattern in patterns:
                for one in web.knots():
                    for other in web.knots():
                        for length in range(3):
                            right = sorted([way for way in ways if (way[0], end_of(way), len(way[1])) == (one, other, length)
                                            and fits(web, pattern, way)])
                            count = counted(web, pattern, one, other, length)
                            told = [way_at(web, pattern, one, other, length, k) for k in range(count)]
                            self.assertEqual(told, right)

    def test_ways_put_behind_one_another(self):
        for chance, web, patterns in cases(123, 30):
            machines = [machine_of(pattern) for pattern in patterns[:2]]
            whole = then(*patterns[:2])
            for one, middle in pairs(web, machines[0])[:6]:
                for other in reached(web, machines[1], middle)[:3]:
                    way = put_behind(shortest(web, machines[0], one, middle)[1], shortest(web, machines[1], middle, other)[1])
                    self.assertIs(fits(web, whole, way), True)
                    self.assertIn((one, other), pairs(web, machine_of(whole)))


class TextsAndPatterns(unittest.TestCase):
    def test_what_is_read_again_answers_alike(self):
        for chance, web, patterns in cases(124, 40):
            again = read_web(shown_web(web))
            self.assertEqual(again.rows(), web.rows())
            for pattern in patterns:
                self.assertEqual(read_pattern(shown(pattern)), pattern)
                self.assertEqual(pairs(again, machine_of(read_pattern(shown(pattern)))), pairs(web, machine_of(pattern)))

    def test_patterns_put_otherwise_answer_alike(self):
        for chance, web, patterns in cases(125, 40):
            for pattern in patterns:
                plain, turned_about = plainly(pattern), backwards(pattern)
                held = pairs(web, machine_of(pattern))
                self.assertEqual(pairs(web, machine_of(plain)), held)
                self.assertEqual(pairs(web, machine_of(turned_about)), sorted([(other, one) for one, other in held]))
                self.assertEqual(alike(pattern, plain)[0], "alike")
                self.assertEqual(alike(backwards(turned_about), pattern)[0], "alike")
                one, other = chance.choice(web.knots()), chance.choice(web.knots())
                for length in range(4):
                    count = counted(web, pattern, one, other, length)
                    self.assertEqual(counted(web, plain, one, other, length), count)
                    self.assertEqual(counted(web, turned_about, other, one, length), count)

    def test_one_within_another(self):
        told = {"yes": 0, "no": 0}
        for chance, web, patterns in cases(126, 60):
            one, other = patterns[0], chance.choice([patterns[1], patterns[2], either(patterns[0], patterns[2])])
            answer = within(one, other)
            told[answer[0]] += 1
            both = met(machine_of(one), machine_of(other))
            if answer[0] == "yes":
                self.assertIs(shows(one, other, answer[1]), True)
                self.assertEqual(pairs(web, both), pairs(web, machine_of(one)))
                for length in range(3):
                    for knot in web.knots():
                        count = counted(web, one, "a", knot, length)
                        self.assertLessEqual(count, counted(web, other, "a", knot, length))
            else:
                apart = web_of(answer[1])
                self.assertTrue(is_way(apart, answer[2]) and fits(apart, one, answer[2]))
                self.assertIs(fits(apart, other, answer[2]), False)
                self.assertIs(goes(apart, both, answer[2]), False)
                self.assertEqual(alike(one, other)[0], "unlike")
        self.assertGreater(min(told.values()), 10)


class RulesAndKeepers(unittest.TestCase):
    def test_rules_ties(self):
        many_ties = 0
        for chance, web, patterns in cases(127, 40):
            rules = some_rules(chance, 4)
            told = told_ties(web, rules)
            grown = web_of(with_ties(web.rows(), [tie for tie, way in told]))
            for word, pattern in rules:
                for one, other in pairs(grown, machine_of(pattern)):
                    self.assertIs(grown.has_tie(one, word, other), True)
            self.assertEqual(told_ties(grown, rules), [])
            ahead = web
            for tie, way in told:
                self.assertTrue(is_way(ahead, way) and (way[0], end_of(way)) == (tie[0], tie[2]))
                self.assertTrue(any(word == tie[1] and fits(ahead, pattern, way) for word, pattern in rules))
                ahead = web_of(with_ties(ahead.rows(), [tie]))
            lengths = dict(plain_lengths(web, rules))
            self.assertEqual(sorted(lengths), sorted([tie for tie, way in told]))
            for tie in list(lengths)[:5]:
                way = plain_way(web, rules, tie)
                self.assertTrue(is_way(web, way))
                self.assertEqual((way[0], end_of(way), len(way[1])), (tie[0], tie[2], lengths[tie]))
            many_ties += len(told)
        self.assertGreater(many_ties, 200)

    def test_rules_unfolded(self):
        unfolding = 0
        for chance, web, patterns in cases(128, 80):
            rules = [(word, pattern) for word, pattern in some_rules(chance, 4, ("r", "s"), ("r", "u", "v"), 4)
                     if "'*'" not in repr(pattern)]
            pattern = then(on("r"), patterns[0], either(on("s"), on("*")))
            if refused(order_of, rules):
                self.assertIs(refused(unfolded, pattern, rules)[0], GoesRound)
                continue
            grown = web_of(with_ties(web.rows(), [tie for tie, way in told_ties(web, rules)]))
            told = unfolded(pattern, rules)
            held = pairs(grown, machine_of(pattern))
            for way in all_ways(web, 2)[:150]:
                if fits(web, told, way):
                    self.assertIn((way[0], end_of(way)), held)
            for tie, length in plain_lengths(web, rules)[:5]:
                self.assertIs(fits(web, unfolded(on(tie[1]), rules), plain_way(web, rules, tie)), True)
                unfolding += 1
        self.assertGreater(unfolding, 30)

    def test_kept_pairs(self):
        for chance, web, patterns in cases(129, 15):
            keeper = Keeper(web, patterns)
            web = web.like()
            for number in range(8):
                one, word, other = chance.choice(web.knots()), chance.choice("uv"), chance.choice(web.knots())
                ahead = [keeper.pairs(place) for place in range(3)]
                deed = "take_tie" if web.has_tie(one, word, other) else "put_tie"
                getattr(web, deed)(one, word, other)
                told = getattr(keeper, deed)(one, word, other)
                for place, pattern in enumerate(patterns):
                    held = pairs(web, machine_of(pattern))
                    self.assertEqual(keeper.pairs(place), held)
                    came, went = told[place]
                    self.assertEqual(sorted((set(ahead[place]) | set(came)) - set(went)), held)
                    self.assertEqual((set(came) & set(ahead[place]), set(went) - set(ahead[place])), (set(), set()))
                    for pair in held:
                        way = keeper.way(place, *pair)
                        self.assertTrue(is_way(web, way) and fits(web, pattern, way))
                        self.assertEqual(len(way[1]), len(shortest(web, machine_of(pattern), *pair)[1][1]))
            self.assertEqual(keeper.rows(), web.rows())


class TheDesk(unittest.TestCase):
    def test_its_answers_are_those_of_the_parts(self):
        for chance, web, patterns in cases(130, 25):
            desk = Desk()
            for line in shown_web(web):
                self.assertEqual(desk.say(line), "ok")
            for name, pattern in zip("pqr", patterns):
                self.assertEqual(desk.say("pattern %s %s" % (name, shown(pattern))), "ok")
                self.assertEqual(desk.say("shown " + name), shown(pattern))
            rules = some_rules(chance, 4)
            for word, pattern in rules:
                self.assertEqual(desk.say("rule %s %s" % (word, shown(pattern))), "ok")
            self.assertEqual(read_web(desk.say("show").split("; ")).rows(), web.rows())
            ties = [line for line in desk.say("ties").split(", ") if line != "-"]
            self.assertEqual(ties, [" ".join(tie) + " " + str(length) for tie, length in plain_lengths(web, rules)])
            for name, pattern in zip("pqr", patterns):
                for one in web.knots():
                    answer = desk.say("ask %s %s" % (name, one))
                    knots = [] if answer == "-" else answer.split(" ")
                    self.assertEqual(knots, reached(web, machine_of(pattern), one))
                    for other in web.knots():
                        text = desk.say("way %s %s %s" % (name, one, other))
                        self.assertEqual(text == "-", other not in knots)
                        if text != "-":
                            length = len(read_way(text)[1])
                            self.assertIs(fits(web, pattern, read_way(text)), True)
                            self.assertNotEqual(desk.say("many %s %s %s %d" % (name, one, other, length)), "0")
            self.assertEqual(desk.say("within p q"), within(patterns[0], patterns[1])[0])


if __name__ == "__main__":
    unittest.main()
