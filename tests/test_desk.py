import random
import unittest

from pathask.counting import counted
from pathask.desk import Desk
from pathask.errors import NoKnot, NoLine, NoMark, NoName, NoTie, TooMany, Twice
from pathask.fitting import fits
from pathask.lengths import plain_lengths
from pathask.machines import machine_of
from pathask.meeting import met
from pathask.reaching import reached, shortest
from pathask.texts import read_way, shown
from pathask.ways import end_of, is_way
from pathask.webtexts import read_web, shown_web
from pathask.within import within
from plainly import many, on, refused, some_pattern, some_rules, some_web

WEB = ["knot ann tall", "knot bob", "knot cid kind tall", "tie ann likes bob", "tie bob likes cid", "tie cid knows cid"]


def desk_with(*lines):
    desk = Desk()
    for line in lines:
        desk.say(line)
    return desk


class Case(unittest.TestCase):
    def assert_says(self, desk, line, answer):
        told = desk.say(line)
        self.assertEqual(told, answer, line)
        self.assertIs(type(told), str)

    def assert_refused(self, desk, line, *refusal):
        shown_ahead, ties_ahead = desk.say("show"), desk.say("ties")
        self.assertEqual(refused(desk.say, line), refusal, line)
        self.assertEqual((desk.say("show"), desk.say("ties")), (shown_ahead, ties_ahead), line)


class TheWeb(Case):
    def test_at_first(self):
        desk = Desk()
        self.assert_says(desk, "show", "-")
        self.assert_says(desk, "ties", "-")
        self.assert_refused(desk, "shown p", NoName, "p")
        self.assert_refused(desk, "gone ann", NoKnot, "ann")

    def test_deeds(self):
        desk = Desk()
        for line in ("knot bob", "knot ann tall kind", "tie ann likes bob", "tie ann likes ann", "mark bob old"):
            self.assert_says(desk, line, "ok")
        self.assert_says(desk, "show", "knot ann kind tall; knot bob old; tie ann likes ann; tie ann likes bob")
        for line in ("unmark ann tall", "untie ann likes bob"):
            self.assert_says(desk, line, "ok")
        self.assert_says(desk, "show", "knot ann kind; knot bob old; tie ann likes ann")
        self.assert_says(desk, "gone ann", "ok")
        self.assert_says(desk, "show", "knot bob old")
        self.assert_says(desk, "gone bob", "ok")
        self.assert_says(desk, "show", "-")

    def test_none_to_five_marks(self):
        desk = Desk()
        for count in range(6):
            marks = ["m", "n", "o", "p", "q"][:count]
            self.assert_says(desk, " ".join(["knot", "abcdef"[count]] + marks), "ok")
        self.assertEqual(desk.say("show").split("; "), [
            "knot a", "knot b m", "knot c m n", "knot d m n o", "knot e m n o p", "knot f m n o p q"])

    def test_refusals_of_the_web_in_their_order(self):
        desk = desk_with(*WEB)
        self.assert_refused(desk, "knot ann", Twice, "ann")
        self.assert_refused(desk, "knot ann old", Twice, "ann")
        self.assert_refused(desk, "gone dan", NoKnot, "dan")
        self.assert_refused(desk, "tie dan likes eve", NoKnot, "dan")
        self.assert_refused(desk, "tie ann likes eve", NoKnot, "eve")
        self.assert_refused(desk, "tie ann likes bob", Twice, "likes")
        self.assert_refused(desk, "untie dan likes eve", NoKnot, "dan")
        self.assert_refused(desk, "untie ann likes eve", NoKnot, "eve")
        self.assert_refused(desk, "untie bob likes ann", NoTie, ("bob", "likes", "ann"))
        self.assert_refused(desk, "mark dan old", NoKnot, "dan")
        self.assert_refused(desk, "mark ann tall", Twice, "tall")
        self.assert_refused(desk, "unmark dan old", NoKnot, "dan")
        self.assert_refused(desk, "unmark bob tall", NoMark, "tall")
        for mark in "mnop":
            desk.say("mark ann " + mark)
        self.assert_refused(desk, "mark ann q", TooMany, "marks")

    def test_too_many_knots_and_ties(self):
        names = [one + other for one in "abcde" for other in "abcdefgh"]
        desk = desk_with(*["knot " + name for name in names])
        self.assertEqual(refused(desk.say, "knot z"), (TooMany, "knots"))
        self.assertEqual(refused(desk.say, "knot aa"), (Twice, "aa"))
        for one in names[:15]:
            for other in names[:20]:
                desk.say("tie %s u %s" % (one, other))
        self.assertEqual(refused(desk.say, "tie ea u eb"), (TooMany, "ties"))
        self.assertEqual(refused(desk.say, "tie aa u aa"), (Twice, "u"))

    def test_names_like_words_of_lines(self):
        desk = Desk()
        for line in ("knot knot knot", "knot tie", "tie knot tie tie", "mark tie on", "pattern then then 2 on tie at on"):
            self.assert_says(desk, line, "ok")
        self.assert_says(desk, "way then knot tie", "knot on tie tie")
        self.assert_says(desk, "show", "knot knot knot; knot tie on; tie knot tie tie")


class Patterns(Case):
    def test_told_and_told_again(self):
        desk = desk_with(*WEB)
        self.assert_says(desk, "pattern p many on likes", "ok")
        self.assert_says(desk, "shown p", "many on likes")
        self.assert_says(desk, "ask p ann", "ann bob cid")
        self.assert_says(desk, "pattern p stay", "ok")
        self.assert_says(desk, "shown p", "stay")
        self.assert_says(desk, "ask p ann", "ann")

    def test_each_sort(self):
        desk = Desk()
        for text in ("stay", "on u", "back u", "on *", "back *", "at m", "off m", "then 0", "either 0", "then 1 stay",
                     "either 2 on u many back v", "many then 2 at m either 0", "then 39" + " stay" * 39,
                     "many " * 9 + "stay", "then 3 on then on either back many"):
            self.assert_says(desk, "pattern p " + text, "ok")
            self.assert_says(desk, "shown p", text)

    def test_ask(self):
        desk = desk_with(*WEB, "pattern p on likes", "pattern q either 0", "pattern r many on *")
        self.assert_says(desk, "ask p ann", "bob")
        self.assert_says(desk, "ask p cid", "-")
        self.assert_says(desk, "ask q ann", "-")
        self.assert_says(desk, "ask r ann", "ann bob cid")
        self.assert_refused(desk, "ask p dan", NoKnot, "dan")

    def test_way(self):
        desk = desk_with(*WEB, "pattern p many on likes", "pattern q then 2 many on * on knows")
        self.assert_says(desk, "way p ann cid", "ann on likes bob on likes cid")
        self.assert_says(desk, "way p ann ann", "ann")
        self.assert_says(desk, "way p cid ann", "-")
        self.assert_says(desk, "way q ann cid", "ann on likes bob on likes cid on knows cid")
        self.assert_refused(desk, "way p dan eve", NoKnot, "dan")
        self.assert_refused(desk, "way p ann eve", NoKnot, "eve")

    def test_both(self):
        desk = desk_with(*WEB, "pattern p many on likes", "pattern q then 2 on * on *", "pattern r many on knows")
        self.assert_says(desk, "both p q ann cid", "ann on likes bob on likes cid")
        self.assert_says(desk, "both p p ann bob", "ann on likes bob")
        self.assert_says(desk, "both p r ann ann", "ann")
        self.assert_says(desk, "both p r ann bob", "-")
        self.assert_says(desk, "both r q cid cid", "cid on knows cid on knows cid")
        self.assert_refused(desk, "both p q dan eve", NoKnot, "dan")
        self.assert_refused(desk, "both p q ann eve", NoKnot, "eve")

    def test_many(self):
        desk = desk_with(*WEB, "pattern p many either 2 on * back *")
        self.assert_says(desk, "many p ann ann 0", "1")
        self.assert_says(desk, "many p ann bob 0", "0")
        self.assert_says(desk, "many p ann bob 1", "1")
        self.assert_says(desk, "many p cid cid 1", "2")
        self.assert_says(desk, "many p cid cid 9", str(counted(read_web(WEB), many(
            ("either", (on("*"), ("step", "back", "*")))), "cid", "cid", 9)))
        self.assertGreater(int(desk.say("many p cid cid 40")), 10 ** 9)
        self.assert_refused(desk, "many p dan eve 2", NoKnot, "dan")
        self.assert_refused(desk, "many p ann eve 2", NoKnot, "eve")

    def test_within(self):
        desk = desk_with("pattern p on likes", "pattern q on *", "pattern r either 0")
        self.assert_says(desk, "within p q", "yes")
        self.assert_says(desk, "within q p", "no")
        self.assert_says(desk, "within p p", "yes")
        self.assert_says(desk, "within r p", "yes")
        self.assert_says(desk, "within p r", "no")

    def test_no_name_ahead_of_all_else_but_no_line(self):
        desk = desk_with(*WEB, "pattern p stay")
        for line in ("ask x dan", "ask x ann", "way x dan eve", "way x ann bob", "many x dan eve 3", "shown x",
                     "both x p dan eve", "both p x dan eve", "both p x ann bob", "both x y ann bob", "within x y",
                     "within x p", "within p x"):
            self.assert_refused(desk, line, NoName, "x")
        self.assert_refused(desk, "both y x dan eve", NoName, "y")
        self.assert_refused(desk, "within y x", NoName, "y")
        self.assert_refused(desk, "ask x", NoLine, 2)
        self.assert_refused(desk, "shown x y", NoLine, 2)
        self.assert_refused(desk, "many x ann bob 41", NoLine, 4)
        self.assert_refused(desk, "within x", NoLine, 2)

    def test_a_rules_word_and_a_knot_are_no_patterns_names(self):
        desk = desk_with(*WEB, "rule r on likes")
        self.assert_refused(desk, "shown r", NoName, "r")
        self.assert_refused(desk, "shown ann", NoName, "ann")


class Rules(Case):
    def test_ties_with_their_plain_lengths(self):
        desk = desk_with(*WEB)
        self.assert_says(desk, "rule far then 2 on likes on likes", "ok")
        self.assert_says(desk, "ties", "ann far cid 2")
        self.assert_says(desk, "rule back back far", "ok")
        self.assert_says(desk, "ties", "ann far cid 2, cid back ann 2")
        self.assert_says(desk, "rule here at tall", "ok")
        self.assert_says(desk, "ties", "ann far cid 2, ann here ann 0, cid back ann 2, cid here cid 0")
        self.assert_says(desk, "rule far on far", "ok")
        self.assert_says(desk, "ties", "ann far cid 2, ann here ann 0, cid back ann 2, cid here cid 0")

    def test_ties_of_the_web_are_none_of_them(self):
        desk = desk_with(*WEB, "rule likes on likes")
        self.assert_says(desk, "ties", "-")
        desk.say("untie ann likes bob")
        self.assert_says(desk, "ties", "-")
        desk.say("rule likes back likes")
        self.assert_says(desk, "ties", "cid likes bob 1")

    def test_rules_are_for_ties_alone(self):
        desk = desk_with(*WEB, "rule far then 2 on likes on likes", "pattern p on far", "pattern q on *")
        self.assert_says(desk, "ask p ann", "-")
        self.assert_says(desk, "ask q ann", "bob")
        self.assert_says(desk, "show", "; ".join(WEB))

    def test_four_rules_and_no_more(self):
        desk = desk_with(*WEB)
        for number in range(4):
            self.assert_says(desk, "rule r on likes", "ok")
        self.assert_refused(desk, "rule s on likes", TooMany, "rules")
        self.assert_refused(desk, "rule r on likes", TooMany, "rules")
        self.assert_refused(desk, "rule s on", NoLine, 3)
        self.assert_says(desk, "drop", "ok")
        self.assert_says(desk, "ties", "-")
        for number in range(4):
            self.assert_says(desk, "rule s on likes", "ok")
        self.assert_says(desk, "ties", "ann s bob 1, bob s cid 1")
        self.assert_refused(desk, "rule s on likes", TooMany, "rules")

    def test_drop_leaves_patterns_and_the_web(self):
        desk = desk_with(*WEB, "pattern p stay", "rule r stay")
        self.assert_says(desk, "drop", "ok")
        self.assert_says(desk, "drop", "ok")
        self.assert_says(desk, "shown p", "stay")
        self.assert_says(desk, "show", "; ".join(WEB))

    def test_ties_behind_deeds(self):
        desk = desk_with(*WEB, "rule far many on *")
        self.assertEqual(len(desk.say("ties").split(", ")), 6)
        desk.say("gone bob")
        self.assert_says(desk, "ties", "ann far ann 0, cid far cid 0")

    def test_great_lengths(self):
        desk = desk_with("knot a", "tie a u a")
        for word, other in ("pu", "qp", "rq", "sr"):
            desk.say("rule %s then 8" % word + " on %s" % other * 8)
        self.assert_says(desk, "ties", "a p a 8, a q a 64, a r a 512, a s a 4096")


class NoLines(Case):
    def setUp(self):
        self.desk = desk_with(*WEB, "pattern p on likes", "rule r stay")

    def assert_no_line(self, line, at):
        self.assert_refused(self.desk, line, NoLine, at)
        self.assert_says(self.desk, "shown p", "on likes")

    def test_a_strange_first_word(self):
        for line in ("", " ", "  ", "x", "Knot ann", "knots ann", "ok", "-", "stay", "on likes", "*", " show", " knot dan",
                     "then 2", "0", "kno", "show;", "ties,", "KNOT dan"):
            self.assert_no_line(line, 0)

    def test_words_lacking(self):
        for line in ("knot", "gone", "tie", "tie ann", "tie ann likes", "untie", "untie ann", "untie ann likes", "mark",
                     "mark ann", "unmark", "unmark ann", "pattern", "pattern q", "rule", "rule s", "both", "both p",
                     "both p p", "both p p ann", "ask", "ask p", "way", "way p", "way p ann", "many", "many p",
                     "many p ann", "many p ann bob", "within", "within p", "shown", "pattern q then", "pattern q on",
                     "pattern q then 2 stay", "pattern q many", "rule s at", "rule s either 1", "rule s many many"):
            self.assert_no_line(line, len(line.split(" ")))

    def test_words_too_many(self):
        for line in ("gone ann", "tie ann knows bob", "untie ann likes bob", "mark ann old", "unmark ann tall",
                     "pattern q stay", "pattern q then 1 stay", "rule s on likes", "drop", "both p p ann bob", "ask p ann",
                     "way p ann bob", "many p ann bob 3", "within p p", "ties", "show", "shown p"):
            for behind in (" x", " x y", " stay", " ann", " 0", " "):
                self.assert_no_line(line + behind, len(line.split(" ")))
        self.assert_no_line("knot dan m n o p q r", 7)
        self.assert_no_line("knot dan m n o p q r s", 7)

    def test_no_name_where_one_should_be(self):
        for bad in ("", "Ann", "a1", "annannann", "*", "-", "ann,", "0", "a-b"):
            for line, at in (
                    ("knot {}", 1), ("knot dan {}", 2), ("knot dan m {}", 3), ("knot {} m", 1), ("gone {}", 1),
                    ("tie {} likes bob", 1), ("tie ann {} bob", 2), ("tie ann knows {}", 3), ("untie {} likes bob", 1),
                    ("untie ann {} bob", 2), ("untie ann likes {}", 3), ("mark {} old", 1), ("mark ann {}", 2),
                    ("unmark {} tall", 1), ("unmark ann {}", 2), ("pattern {} stay", 1), ("rule {} stay", 1),
                    ("both {} p ann bob", 1), ("both p {} ann bob", 2), ("both p p {} bob", 3), ("both p p ann {}", 4),
                    ("ask {} ann", 1), ("ask p {}", 2), ("way {} ann bob", 1), ("way p {} bob", 2), ("way p ann {}", 3),
                    ("many {} ann bob 3", 1), ("many p {} bob 3", 2), ("many p ann {} 3", 3), ("within {} p", 1),
                    ("within p {}", 2), ("shown {}", 1), ("pattern q at {}", 3), ("rule s off {}", 3)):
                self.assert_no_line(line.format(bad), at)

    def test_the_first_bad_word_counts(self):
        self.assert_no_line("tie 1 2 3", 1)
        self.assert_no_line("tie ann 2 3", 2)
        self.assert_no_line("tie ann 2", 2)
        self.assert_no_line("many 1 2 3 x", 1)
        self.assert_no_line("pattern 1 x", 1)
        self.assert_no_line("knot dan M N", 2)
        self.assert_no_line("x 1 2 3", 0)

    def test_no_number_from_0_to_40(self):
        for bad in ("41", "42", "99", "100", "00", "01", "040", "-1", "+1", "x", "", "1.0", "ann", "4O"):
            self.assert_no_line("many p ann bob " + bad, 4)
        for number in range(41):
            self.assertIs(self.desk.say("many p ann bob %d" % number).isdigit(), True)

    def test_a_patterns_words_are_counted_from_the_lines_begin(self):
        for first in ("pattern q", "rule s"):
            for text, at in (
                    ("x", 2), ("", 2), ("then", 3), ("then x", 3), ("then 40", 3), ("either 00", 3), ("then 2 stay x", 5),
                    ("many x", 3), ("on", 3), ("on 1", 3), ("back A", 3), ("at *", 3), ("stay stay", 3), ("stay ", 3),
                    ("then 2 stay stay stay", 6), ("then  2 stay stay", 3), ("many many either 1 on", 7),
                    ("many " * 10 + "stay", 12), ("many " * 11 + "stay", 12), ("then 39" + " many stay" * 39, 43),
                    ("then 39" + " stay" * 38 + " then 1 stay", 44), ("Stay", 2), ("knot ann", 2)):
                self.assert_no_line(first + " " + text, at)

    def test_marks_that_are_alike_and_a_sixth_one(self):
        self.assert_no_line("knot dan m m", 3)
        self.assert_no_line("knot dan m n o p m", 6)
        self.assert_no_line("knot dan m n m n", 4)
        self.assert_no_line("knot dan m m M", 3)
        self.assert_no_line("knot dan m n o p q m", 7)
        self.assert_no_line("knot ann m m", 3)
        # The knot's own name may be a mark.
        self.assert_says(self.desk, "knot dan dan", "ok")

    def test_two_blanks_side_by_side(self):
        for line, at in (("knot  dan", 1), ("knot dan  m", 2), ("show ", 1), ("ties ", 1), ("drop ", 1), ("tie ann  bob", 2),
                         ("ask  p ann", 1), ("ask p  ann", 2), ("ask p ann ", 3), ("knot dan ", 2), ("knot dan m ", 3)):
            self.assert_no_line(line, at)

    def test_ahead_of_all_else(self):
        for number in range(3):
            self.desk.say("rule r stay")
        self.assert_no_line("rule s x", 2)
        self.assert_no_line("knot ann Tall", 2)
        self.assert_no_line("gone dan x", 2)
        self.assert_no_line("both x y dan", 4)


class Desks(Case):
    def test_two_desks(self):
        one, other = Desk(), Desk()
        one.say("knot ann")
        one.say("pattern p stay")
        one.say("rule r stay")
        self.assert_says(other, "show", "-")
        self.assert_says(other, "ties", "-")
        self.assert_refused(other, "shown p", NoName, "p")
        self.assert_says(other, "knot ann tall", "ok")
        self.assert_says(one, "show", "knot ann")
        self.assert_says(other, "drop", "ok")
        self.assert_says(one, "ties", "ann r ann 0")

    def test_answers_by_chance(self):
        chance = random.Random(111)
        for number in range(60):
            web = some_web(chance, chance.randint(1, 4), chance.randint(0, 6))
            rules = some_rules(chance, 4)
            one, other = some_pattern(chance, 6), many(some_pattern(chance, 6))
            desk = desk_with(*shown_web(web), *["rule %s %s" % (word, shown(pattern)) for word, pattern in rules])
            desk.say("pattern p " + shown(one))
            desk.say("pattern q " + shown(other))
            self.assert_says(desk, "show", "; ".join(shown_web(web)))
            self.assert_says(desk, "within p q", within(one, other)[0])
            ties = ["%s %s %s %d" % (tie + (length,)) for tie, length in plain_lengths(web, rules)]
            self.assert_says(desk, "ties", ", ".join(ties) or "-")
            both = met(machine_of(one), machine_of(other))
            for knot in web.knots():
                self.assert_says(desk, "ask p " + knot, " ".join(reached(web, machine_of(one), knot)) or "-")
                self.assert_says(desk, "many q a %s 3" % knot, str(counted(web, other, "a", knot, 3)))
                self.assert_way(desk.say("way q a " + knot), web, machine_of(other), [other], knot)
                self.assert_way(desk.say("both p q a " + knot), web, both, [one, other], knot)

    def assert_way(self, text, web, machine, patterns, knot):
        right = shortest(web, machine, "a", knot)
        self.assertEqual(text == "-", right[0] == "none")
        if right[0] == "way":
            way = read_way(text)
            self.assertTrue(is_way(web, way) and all(fits(web, pattern, way) for pattern in patterns))
            self.assertEqual((way[0], end_of(way), len(way[1])), ("a", knot, len(right[1][1])))


if __name__ == "__main__":
    unittest.main()
