import copy
import random
import unittest

from pathask.errors import NoKnot, NoLine, PathError, TooMany, Twice
from pathask.webs import Web, web_of
from pathask.webtexts import read_web, shown_web
from plainly import some_web, web_with

SMALL = ["knot a", "knot b blue red", "knot c red", "tie a likes b", "tie b likes a", "tie c owns c"]


def small_web():
    return web_with(
        {"c": ["red"], "b": ["red", "blue"], "a": []}, [("c", "owns", "c"), ("b", "likes", "a"), ("a", "likes", "b")])


def names(count):
    return [chr(97 + number // 26) + chr(97 + number % 26) for number in range(count)]


class Shown(unittest.TestCase):
    def test_a_web_without_knots(self):
        self.assertEqual(shown_web(Web()), [])

    def test_knots_without_ties(self):
        self.assertEqual(shown_web(web_with({"b": [], "a": []}, [])), ["knot a", "knot b"])

    def test_marks_and_ties_in_the_rows_order(self):
        self.assertEqual(shown_web(small_web()), SMALL)

    def test_five_marks(self):
        web = web_with({"a": ["t", "s", "r", "q", "p"]}, [])
        self.assertEqual(shown_web(web), ["knot a p q r s t"])

    def test_names_that_are_words_of_the_lines(self):
        web = web_with({"tie": ["knot"], "knot": ["tie"]}, [("tie", "knot", "knot")])
        self.assertEqual(shown_web(web), ["knot knot tie", "knot tie knot", "tie tie knot knot"])

    def test_a_web_greater_than_deeds_make(self):
        knots = names(60)
        ties = tuple(sorted((one, "w", other) for one in knots for other in knots[:10]))
        lines = shown_web(web_of((tuple((name, ()) for name in knots), ties)))
        self.assertEqual(len(lines), 660)
        self.assertEqual((lines[0], lines[59], lines[60]), ("knot aa", "knot ch", "tie aa w aa"))

    def test_the_list_is_the_askers_own_and_the_web_stays(self):
        web = small_web()
        rows = web.rows()
        told = shown_web(web)
        self.assertIs(type(told), list)
        told.append("more")
        told[0] = "changed"
        self.assertEqual(shown_web(web), SMALL)
        self.assertEqual(web.rows(), rows)
        told = shown_web(web)
        web.take_knot("b")
        self.assertEqual(told, SMALL)


class Read(unittest.TestCase):
    def assert_refused(self, lines, kind, field, value):
        before = copy.deepcopy(lines)
        with self.assertRaises(PathError, msg=repr(lines)) as taken:
            read_web(lines)
        self.assertIs(type(taken.exception), kind, repr(lines))
        self.assertEqual(getattr(taken.exception, field), value, repr(lines))
        self.assertEqual(lines, before)

    def assert_no_line(self, line):
        self.assert_refused([line], NoLine, "at", 0)
        self.assert_refused(["knot a", "knot b"] + [line] + ["knot c"], NoLine, "at", 2)

    def test_no_lines(self):
        self.assertEqual(read_web([]).rows(), ((), ()))

    def test_what_was_shown_gives_the_same_rows(self):
        self.assertIsInstance(read_web(SMALL), Web)
        self.assertEqual(read_web(SMALL).rows(), small_web().rows())
        chance = random.Random(18)
        for number in range(100):
            web = some_web(chance, chance.randint(0, 8) or 1, chance.randint(0, 12), ("on", "tie"), ("m", "knot", "n"))
            lines = shown_web(web)
            self.assertEqual(read_web(lines).rows(), web.rows())
            self.assertEqual(shown_web(read_web(lines)), lines)

    def test_lines_and_marks_in_another_order(self):
        lines = ["knot c red", "tie c owns c", "knot b red blue", "knot a", "tie b likes a", "tie a likes b"]
        self.assertEqual(read_web(lines).rows(), small_web().rows())
        chance = random.Random(19)
        for number in range(50):
            knots, ties = SMALL[:3], SMALL[3:]
            chance.shuffle(knots)
            chance.shuffle(ties)
            self.assertEqual(read_web(knots + ties).rows(), small_web().rows())

    def test_five_marks(self):
        self.assertEqual(read_web(["knot a t s r q p"]).marks("a"), ["p", "q", "r", "s", "t"])

    def test_names_that_are_words_of_the_lines(self):
        lines = ["knot knot tie", "knot tie knot", "tie tie knot knot"]
        self.assertEqual(shown_web(read_web(lines)), lines)

    def test_a_mark_like_its_knot(self):
        self.assertEqual(read_web(["knot a a"]).rows(), ((("a", ("a",)),), ()))

    def test_another_first_word(self):
        for line in ("", "a", "Knot a", "knots a", "mark a b", "tied a w b", "a knot", "untie a w a", "gone a", "KNOT a"):
            self.assert_no_line(line)

    def test_a_word_that_is_no_name(self):
        for word in ("A", "abcdefghi", "a1", "*", "0", "a-b", "a\n"):
            self.assert_no_line("knot " + word)
            self.assert_no_line("knot x " + word)
            self.assert_no_line("knot x m n " + word)
            self.assert_no_line("tie " + word + " w a")
            self.assert_no_line("tie a " + word + " a")
            self.assert_no_line("tie a w " + word)

    def test_a_word_more_or_fewer(self):
        for line in ("knot", "tie", "tie a", "tie a w", "tie a w a a", "tie a w a w"):
            self.assert_no_line(line)

    def test_blanks(self):
        for line in (" ", "  ", " knot x", "knot x ", "knot  x", "knot x  m", "knot x m ", "knot ", " tie a w a",
                     "tie a w a ", "tie  a w a", "tie a  w a", "tie a w  a", "tie a w ", "knot\tx", "knot x\tm"):
            self.assert_no_line(line)

    def test_marks_that_are_alike_and_a_sixth_one(self):
        for line in ("knot x m m", "knot x m n m", "knot x a b c d d", "knot x a b c d e f", "knot x a b c d e e",
                     "knot x a b c d e f g"):
            self.assert_no_line(line)

    def test_twice(self):
        self.assert_refused(["knot a", "knot b", "knot a"], Twice, "name", "a")
        self.assert_refused(["knot a m", "knot a n"], Twice, "name", "a")
        self.assert_refused(["knot a", "tie a w a", "tie a w a"], Twice, "name", "w")

    def test_no_knot_of_a_tie_ahead_of_its_knots_line(self):
        self.assert_refused(["tie a w b", "knot a", "knot b"], NoKnot, "name", "a")
        self.assert_refused(["knot a", "tie a w b", "knot b"], NoKnot, "name", "b")
        self.assert_refused(["knot b", "tie a w b", "knot a"], NoKnot, "name", "a")
        self.assert_refused(["knot a", "tie a a b"], NoKnot, "name", "b")
        self.assert_refused(["tie x w y"], NoKnot, "name", "x")

    def test_too_many_knots(self):
        lines = ["knot " + name for name in names(41)]
        self.assertEqual(read_web(lines[:40]).knots(), names(40))
        self.assert_refused(lines, TooMany, "word", "knots")
        self.assert_refused(lines[:40] + lines[:1], Twice, "name", "aa")

    def test_too_many_ties(self):
        knots = names(20)
        lines = ["knot " + name for name in knots]
        ties = ["tie " + one + " w " + other for one in knots for other in knots]
        self.assertEqual(len(read_web(lines + ties[:300]).rows()[1]), 300)
        self.assert_refused(lines + ties[:301], TooMany, "word", "ties")
        self.assert_refused(lines + ties[:300] + ties[:1], Twice, "name", "w")
        self.assert_refused(lines + ties[:300] + ["tie aa w zz"], NoKnot, "name", "zz")

    def test_of_several_bad_lines_the_first(self):
        self.assert_refused(["knot a", "knot a", "nonsense"], Twice, "name", "a")
        self.assert_refused(["knot a", "nonsense", "knot a"], NoLine, "at", 1)
        self.assert_refused(["tie a w a", "knot A"], NoKnot, "name", "a")
        self.assert_refused(["knot A", "tie a w a"], NoLine, "at", 0)
        self.assert_refused(["knot a", "tie a w b", "tie c w a"], NoKnot, "name", "b")
        self.assert_refused(["knot a", "knot b m m", "knot A"], NoLine, "at", 1)
        self.assert_refused(["knot " + name for name in names(41)] + ["nonsense"], TooMany, "word", "knots")
        self.assert_refused(["nonsense"] + ["knot " + name for name in names(41)], NoLine, "at", 0)

    def test_a_line_that_is_none_goes_ahead_of_the_webs_own_refusals(self):
        self.assert_refused(["knot a", "knot a m m"], NoLine, "at", 1)
        self.assert_refused(["tie x w Y"], NoLine, "at", 0)

    def test_the_lines_stay_and_webs_are_apart(self):
        lines = list(SMALL)
        one, other = read_web(lines), read_web(lines)
        one.take_knot("a")
        self.assertEqual(other.rows(), small_web().rows())
        self.assertEqual(lines, SMALL)
        lines.clear()
        self.assertEqual(other.rows(), small_web().rows())


if __name__ == "__main__":
    unittest.main()
