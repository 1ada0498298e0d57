import copy
import random
import unittest

from pathask import errors
from pathask.webs import Web, web_of

EMPTY = ((), ())


def letters(number):
    return chr(ord("a") + number // 26) + chr(ord("a") + number % 26)


def small_web():
    web = Web()
    web.put_knot("a", ["red", "blue"])
    web.put_knot("b", [])
    web.put_knot("c", ["red"])
    web.put_tie("a", "likes", "b")
    web.put_tie("b", "likes", "c")
    web.put_tie("c", "owns", "c")
    return web


SMALL = (
    (("a", ("blue", "red")), ("b", ()), ("c", ("red",))),
    (("a", "likes", "b"), ("b", "likes", "c"), ("c", "owns", "c")),
)


def full_of_knots():
    web = Web()
    for number in range(40):
        web.put_knot(letters(number), [])
    return web


def full_of_ties():
    web = Web()
    names = [letters(number) for number in range(10)]
    for name in names:
        web.put_knot(name, [])
    for word in ("x", "y", "z"):
        for one in names:
            for other in names:
                web.put_tie(one, word, other)
    return web


def great_rows():
    names = [letters(number) for number in range(60)]
    knots = tuple((name, ("m", "n")) for name in names)
    ties = tuple(sorted((one, "w", other) for one in names for other in names[:10]))
    return (knots, ties)


class Case(unittest.TestCase):
    def assert_refused(self, web, kind, fields, deed, *arguments):
        before = web.rows()
        with self.assertRaises(errors.PathError) as taken:
            getattr(web, deed)(*arguments)
        self.assertIs(type(taken.exception), kind)
        for field, value in fields.items():
            self.assertEqual(getattr(taken.exception, field), value)
            self.assertIs(type(getattr(taken.exception, field)), type(value))
        self.assertEqual(web.rows(), before)
        self.assert_whole(web)

    def assert_whole(self, web):
        knots, ties = web.rows()
        self.assertEqual(web.knots(), [name for name, marks in knots])
        for name, marks in knots:
            self.assertEqual(web.marks(name), list(marks))
            on = [("on", word, other) for one, word, other in ties if one == name]
            back = [("back", word, one) for one, word, other in ties if other == name]
            self.assertEqual(web.steps(name), sorted(on + back))
        for tie in ties:
            self.assertIs(web.has_tie(*tie), True)

    def assert_tuples(self, rows):
        self.assertIs(type(rows), tuple)
        self.assertEqual([type(part) for part in rows], [tuple, tuple])
        for name, marks in rows[0]:
            self.assertIs(type(marks), tuple)
        for row in rows[0] + rows[1]:
            self.assertIs(type(row), tuple)
        for part in rows + tuple(marks for name, marks in rows[0]):
            self.assertEqual(part, tuple(sorted(set(part))))


class WhatMayBeDone(Case):
    def test_a_new_web_has_nothing(self):
        web = Web()
        self.assertEqual(web.rows(), EMPTY)
        self.assertEqual(web.knots(), [])

    def test_each_deed_tells_none(self):
        web = Web()
        self.assertIsNone(web.put_knot("a", ["m"]))
        self.assertIsNone(web.put_knot("b", []))
        self.assertIsNone(web.put_tie("a", "w", "b"))
        self.assertIsNone(web.take_tie("a", "w", "b"))
        self.assertIsNone(web.put_mark("a", "n"))
        self.assertIsNone(web.take_mark("a", "n"))
        self.assertIsNone(web.take_knot("a"))

    def test_a_knot_with_none_to_five_marks(self):
        marks = ["e", "d", "c", "b", "a"]
        for many in range(6):
            web = Web()
            web.put_knot("k", marks[:many])
            self.assertEqual(web.rows(), ((("k", tuple(sorted(marks[:many]))),), ()))
            self.assertEqual(web.marks("k"), sorted(marks[:many]))

    def test_names_of_one_sort_may_be_names_of_another(self):
        web = Web()
        web.put_knot("a", ["a"])
        web.put_tie("a", "a", "a")
        self.assertEqual(web.rows(), ((("a", ("a",)),), (("a", "a", "a"),)))

    def test_a_name_may_be_eight_letters_long(self):
        web = Web()
        web.put_knot("abcdefgh", ["stuvwxyz"])
        web.put_tie("abcdefgh", "ijklmnop", "abcdefgh")
        self.assertEqual(web.rows(), ((("abcdefgh", ("stuvwxyz",)),), (("abcdefgh", "ijklmnop", "abcdefgh"),)))

    def test_a_tie_from_a_knot_to_itself(self):
        web = Web()
        web.put_knot("a", [])
        web.put_tie("a", "w", "a")
        self.assertIs(web.has_tie("a", "w", "a"), True)
        self.assertEqual(web.steps("a"), [("back", "w", "a"), ("on", "w", "a")])
        web.take_tie("a", "w", "a")
        self.assertEqual(web.rows(), ((("a", ()),), ()))
        self.assertEqual(web.steps("a"), [])

    def test_two_knots_tied_by_another_word_and_the_other_way(self):
        web = small_web()
        web.put_tie("a", "owns", "b")
        web.put_tie("b", "likes", "a")
        ties = sorted(SMALL[1] + (("a", "owns", "b"), ("b", "likes", "a")))
        self.assertEqual(web.rows(), (SMALL[0], tuple(ties)))

    def test_a_tie_out_and_in_again(self):
        web = small_web()
        web.take_tie("a", "likes", "b")
        self.assertEqual(web.rows(), (SMALL[0], SMALL[1][1:]))
        self.assert_whole(web)
        web.put_tie("a", "likes", "b")
        self.assertEqual(web.rows(), SMALL)
        self.assert_whole(web)

    def test_taking_a_tie_leaves_its_kin(self):
        web = small_web()
        web.put_tie("a", "owns", "b")
        web.put_tie("b", "likes", "a")
        web.take_tie("b", "likes", "a")
        self.assertIs(web.has_tie("a", "likes", "b"), True)
        self.assertIs(web.has_tie("a", "owns", "b"), True)
        self.assert_whole(web)

    def test_a_mark_off_and_on_again(self):
        web = small_web()
        web.take_mark("a", "red")
        self.assertEqual(web.marks("a"), ["blue"])
        self.assertEqual(web.marks("c"), ["red"])
        web.put_mark("a", "red")
        self.assertEqual(web.rows(), SMALL)

    def test_a_mark_is_put_on_one_knot_alone(self):
        web = small_web()
        web.put_mark("b", "green")
        self.assertEqual([web.marks(knot) for knot in "abc"], [["blue", "red"], ["green"], ["red"]])

    def test_a_knot_out_with_its_ties_and_in_again_without(self):
        web = small_web()
        web.take_knot("b")
        self.assertEqual(web.rows(), ((SMALL[0][0], SMALL[0][2]), (("c", "owns", "c"),)))
        self.assert_whole(web)
        web.put_knot("b", ["new"])
        self.assertEqual(web.rows(), ((SMALL[0][0], ("b", ("new",)), SMALL[0][2]), (("c", "owns", "c"),)))
        self.assert_whole(web)

    def test_a_knot_takes_the_ties_to_it_from_it_and_to_itself(self):
        web = small_web()
        web.put_tie("c", "likes", "a")
        web.put_tie("a", "owns", "c")
        web.take_knot("c")
        self.assertEqual(web.rows(), (SMALL[0][:2], (("a", "likes", "b"),)))
        self.assert_whole(web)
        self.assertIs(web.has_tie("c", "owns", "c"), False)

    def test_marks_of_a_knot_that_went_do_not_come_again(self):
        web = small_web()
        web.take_knot("a")
        web.put_knot("a", [])
        self.assertEqual(web.marks("a"), [])


class WhatIsRefused(Case):
    def test_a_knot_twice(self):
        self.assert_refused(small_web(), errors.Twice, {"name": "a"}, "put_knot", "a", [])
        self.assert_refused(small_web(), errors.Twice, {"name": "b"}, "put_knot", "b", ["new"])

    def test_the_fortieth_knot_and_the_one_beyond(self):
        web = full_of_knots()
        self.assertEqual(len(web.knots()), 40)
        self.assert_refused(web, errors.TooMany, {"word": "knots"}, "put_knot", "new", [])
        web.take_knot("aa")
        web.put_knot("new", [])
        self.assertEqual(len(web.knots()), 40)

    def test_a_knot_twice_goes_ahead_of_too_many(self):
        self.assert_refused(full_of_knots(), errors.Twice, {"name": "ab"}, "put_knot", "ab", [])

    def test_a_knot_that_is_not_there_is_taken(self):
        self.assert_refused(Web(), errors.NoKnot, {"name": "a"}, "take_knot", "a")
        self.assert_refused(small_web(), errors.NoKnot, {"name": "likes"}, "take_knot", "likes")

    def test_a_tie_without_its_knots(self):
        for deed in ("put_tie", "take_tie"):
            web = small_web()
            self.assert_refused(web, errors.NoKnot, {"name": "x"}, deed, "x", "likes", "b")
            self.assert_refused(web, errors.NoKnot, {"name": "y"}, deed, "a", "likes", "y")
            self.assert_refused(web, errors.NoKnot, {"name": "x"}, deed, "x", "likes", "y")
            self.assert_refused(web, errors.NoKnot, {"name": "y"}, deed, "y", "likes", "x")

    def test_a_tie_twice(self):
        self.assert_refused(small_web(), errors.Twice, {"name": "likes"}, "put_tie", "a", "likes", "b")
        self.assert_refused(small_web(), errors.Twice, {"name": "owns"}, "put_tie", "c", "owns", "c")

    def test_the_three_hundredth_tie_and_the_one_beyond(self):
        web = full_of_ties()
        self.assertEqual(len(web.rows()[1]), 300)
        self.assert_refused(web, errors.TooMany, {"word": "ties"}, "put_tie", "aa", "new", "ab")
        web.take_tie("aa", "x", "aa")
        web.put_tie("aa", "new", "ab")
        self.assertEqual(len(web.rows()[1]), 300)
        self.assert_refused(web, errors.TooMany, {"word": "ties"}, "put_tie", "aa", "x", "aa")

    def test_a_knot_taken_makes_room_for_ties(self):
        web = full_of_ties()
        web.take_knot("aa")
        self.assertEqual(len(web.rows()[1]), 243)
        for number in range(57):
            web.put_tie("ab", "n" + letters(number), "ac")
        self.assert_refused(web, errors.TooMany, {"word": "ties"}, "put_tie", "ab", "new", "ac")

    def test_other_tie_refusals_go_ahead_of_too_many(self):
        web = full_of_ties()
        self.assert_refused(web, errors.NoKnot, {"name": "no"}, "put_tie", "no", "x", "aa")
        self.assert_refused(web, errors.NoKnot, {"name": "no"}, "put_tie", "aa", "x", "no")
        self.assert_refused(web, errors.Twice, {"name": "y"}, "put_tie", "aa", "y", "ab")

    def test_a_tie_that_is_not_there_is_taken(self):
        for tie in (("b", "likes", "a"), ("a", "owns", "b"), ("a", "likes", "a"), ("a", "likes", "c")):
            self.assert_refused(small_web(), errors.NoTie, {"tie": tie}, "take_tie", *tie)

    def test_a_tie_taken_twice(self):
        web = small_web()
        web.take_tie("a", "likes", "b")
        self.assert_refused(web, errors.NoTie, {"tie": ("a", "likes", "b")}, "take_tie", "a", "likes", "b")

    def test_a_mark_without_its_knot(self):
        for deed in ("put_mark", "take_mark"):
            self.assert_refused(small_web(), errors.NoKnot, {"name": "x"}, deed, "x", "red")

    def test_a_mark_twice(self):
        self.assert_refused(small_web(), errors.Twice, {"name": "red"}, "put_mark", "a", "red")

    def test_the_fifth_mark_and_the_one_beyond(self):
        web = Web()
        web.put_knot("k", ["a", "b", "c", "d"])
        web.put_mark("k", "e")
        self.assert_refused(web, errors.TooMany, {"word": "marks"}, "put_mark", "k", "f")
        web.take_mark("k", "a")
        web.put_mark("k", "f")
        self.assertEqual(web.marks("k"), ["b", "c", "d", "e", "f"])

    def test_five_marks_from_the_begin_leave_no_room(self):
        web = Web()
        web.put_knot("k", ["a", "b", "c", "d", "e"])
        self.assert_refused(web, errors.TooMany, {"word": "marks"}, "put_mark", "k", "f")

    def test_no_refusal_is_told_of_a_knot_put_in_with_six_marks(self):
        web = Web()
        web.put_knot("k", ["a", "b", "c", "d", "e", "f"])
        self.assertEqual(web.marks("k"), ["a", "b", "c", "d", "e", "f"])
        self.assert_refused(web, errors.TooMany, {"word": "marks"}, "put_mark", "k", "g")

    def test_marks_are_counted_for_each_knot(self):
        web = Web()
        web.put_knot("k", ["a", "b", "c", "d", "e"])
        web.put_knot("l", [])
        web.put_mark("l", "a")
        self.assertEqual(web.marks("l"), ["a"])

    def test_a_mark_twice_goes_ahead_of_too_many(self):
        web = Web()
        web.put_knot("k", ["a", "b", "c", "d", "e"])
        self.assert_refused(web, errors.Twice, {"name": "c"}, "put_mark", "k", "c")

    def test_a_mark_that_is_not_there_is_taken(self):
        self.assert_refused(small_web(), errors.NoMark, {"name": "green"}, "take_mark", "a", "green")
        self.assert_refused(small_web(), errors.NoMark, {"name": "blue"}, "take_mark", "c", "blue")

    def test_right_deeds_behind_refusals(self):
        web = small_web()
        refused = [
            ("put_knot", "a", []), ("take_knot", "x"), ("put_tie", "a", "likes", "b"), ("put_tie", "x", "w", "y"),
            ("take_tie", "b", "likes", "a"), ("put_mark", "a", "red"), ("take_mark", "b", "red"),
        ]
        for deed, *arguments in refused:
            self.assertRaises(errors.PathError, getattr(web, deed), *arguments)
        web.put_knot("x", [])
        web.put_tie("x", "w", "b")
        web.take_tie("x", "w", "b")
        web.put_mark("b", "red")
        web.take_mark("b", "red")
        web.take_knot("x")
        self.assertEqual(web.rows(), SMALL)
        self.assert_whole(web)


class StepsAndRows(Case):
    def test_steps_are_sorted_and_of_both_sides(self):
        web = small_web()
        web.put_tie("b", "adores", "c")
        web.put_tie("b", "likes", "a")
        steps = [
            ("back", "likes", "a"), ("on", "adores", "c"), ("on", "likes", "a"), ("on", "likes", "c"),
        ]
        self.assertEqual(web.steps("b"), steps)
        self.assertIs(type(web.steps("b")), list)
        self.assertEqual([type(step) for step in web.steps("b")], [tuple] * 4)

    def test_two_steps_of_a_tie_to_itself(self):
        self.assertEqual(small_web().steps("c"), [("back", "likes", "b"), ("back", "owns", "c"), ("on", "owns", "c")])

    def test_no_steps(self):
        web = Web()
        web.put_knot("a", [])
        self.assertEqual(web.steps("a"), [])

    def test_rows_are_sorted_tuples_throughout(self):
        web = Web()
        for name in ("z", "b", "ab", "a"):
            web.put_knot(name, ["s", "r", "t"])
        for tie in (("z", "b", "a"), ("a", "z", "b"), ("a", "b", "z"), ("ab", "a", "a"), ("a", "b", "ab")):
            web.put_tie(*tie)
        marks = ("r", "s", "t")
        knots = (("a", marks), ("ab", marks), ("b", marks), ("z", marks))
        ties = (("a", "b", "ab"), ("a", "b", "z"), ("a", "z", "b"), ("ab", "a", "a"), ("z", "b", "a"))
        self.assertEqual(web.rows(), (knots, ties))
        self.assert_tuples(web.rows())
        self.assert_tuples(Web().rows())

    def test_knots_and_marks_are_sorted_lists(self):
        web = Web()
        web.put_knot("b", ["z", "y"])
        web.put_knot("a", [])
        self.assertEqual(web.knots(), ["a", "b"])
        self.assertEqual(web.marks("b"), ["y", "z"])
        self.assertEqual(web.marks("a"), [])

    def test_marks_and_steps_of_a_knot_that_is_not_there(self):
        for asked in ("marks", "steps"):
            self.assert_refused(Web(), errors.NoKnot, {"name": "a"}, asked, "a")
            self.assert_refused(small_web(), errors.NoKnot, {"name": "red"}, asked, "red")
            web = small_web()
            web.take_knot("a")
            self.assert_refused(web, errors.NoKnot, {"name": "a"}, asked, "a")

    def test_has_tie_of_any_names(self):
        web = small_web()
        self.assertIs(web.has_tie("a", "likes", "b"), True)
        self.assertIs(web.has_tie("c", "owns", "c"), True)
        for tie in (("b", "likes", "a"), ("a", "owns", "b"), ("x", "likes", "b"), ("a", "likes", "y"),
                    ("x", "w", "y"), ("likes", "a", "b"), ("a", "red", "a")):
            self.assertIs(web.has_tie(*tie), False)
        self.assertIs(Web().has_tie("a", "b", "c"), False)
        self.assertEqual(web.rows(), SMALL)

    def test_the_order_of_deeds_leaves_no_trace(self):
        web = Web()
        for name, marks in (("c", ["red"]), ("b", []), ("a", ["red"])):
            web.put_knot(name, marks)
        web.put_mark("a", "blue")
        for tie in reversed(SMALL[1]):
            web.put_tie(*tie)
        self.assertEqual(web.rows(), SMALL)
        self.assert_whole(web)


class WebsOfRows(Case):
    def test_the_same_rows(self):
        for rows in (EMPTY, SMALL, full_of_knots().rows(), full_of_ties().rows(), great_rows()):
            web = web_of(rows)
            self.assertIsInstance(web, Web)
            self.assertEqual(web.rows(), rows)
            self.assert_tuples(web.rows())
            self.assert_whole(web)
            self.assertIsInstance(web.like(), Web)
            self.assertEqual(web.like().rows(), rows)
            self.assert_whole(web.like())

    def test_more_than_the_bounds(self):
        web = web_of(great_rows())
        self.assertEqual(len(web.knots()), 60)
        self.assertEqual(len(web.rows()[1]), 600)
        self.assertEqual(len(web.steps("aa")), 70)
        self.assert_refused(web, errors.TooMany, {"word": "knots"}, "put_knot", "new", [])
        self.assert_refused(web, errors.TooMany, {"word": "ties"}, "put_tie", "aa", "new", "ab")
        self.assert_refused(web, errors.Twice, {"name": "aa"}, "put_knot", "aa", [])
        web.take_tie("aa", "w", "aa")
        web.take_knot("ab")
        web.put_mark("ac", "o")
        self.assertEqual((len(web.knots()), len(web.rows()[1])), (59, 599 - 10 - 59))
        self.assert_whole(web)

    def test_bounds_hold_for_deeds_behind_right_rows(self):
        web = web_of(full_of_knots().rows())
        self.assert_refused(web, errors.TooMany, {"word": "knots"}, "put_knot", "new", [])
        web = full_of_ties().like()
        self.assert_refused(web, errors.TooMany, {"word": "ties"}, "put_tie", "aa", "new", "ab")

    def test_a_deed_on_one_web_changes_no_other(self):
        deeds = [
            ("put_knot", "x", []), ("take_knot", "b"), ("put_tie", "b", "w", "a"), ("take_tie", "a", "likes", "b"),
            ("put_mark", "b", "new"), ("take_mark", "a", "red"),
        ]
        for deed, *arguments in deeds:
            first = small_web()
            webs = [first, first.like(), web_of(first.rows()), first.like().like()]
            for done in webs:
                with self.subTest(deed):
                    again = [web.like() for web in webs]
                    others = [web for web in webs + again if web is not done]
                    before = [web.rows() for web in others]
                    getattr(done, deed)(*arguments)
                    self.assertEqual([web.rows() for web in others], before)
                    for web in others + [done]:
                        self.assert_whole(web)

    def test_two_new_webs_are_apart(self):
        one, other = Web(), Web()
        one.put_knot("a", [])
        self.assertEqual(other.rows(), EMPTY)

    def test_rows_are_not_changed(self):
        rows = great_rows()
        before = copy.deepcopy(rows)
        web_of(rows).take_knot("aa")
        self.assertEqual(rows, before)


class Copies(Case):
    def test_a_list_of_marks_handed_in(self):
        marks = ["red", "blue"]
        web = Web()
        web.put_knot("a", marks)
        self.assertEqual(marks, ["red", "blue"])
        marks.append("green")
        marks[0] = "pink"
        self.assertEqual(web.marks("a"), ["blue", "red"])
        self.assertEqual(web.rows(), ((("a", ("blue", "red")),), ()))
        web.put_mark("a", "black")
        self.assertEqual(marks, ["pink", "blue", "green"])

    def test_one_list_for_two_knots(self):
        marks = ["red"]
        web = Web()
        web.put_knot("a", marks)
        web.put_knot("b", marks)
        web.put_mark("a", "blue")
        self.assertEqual(web.marks("b"), ["red"])

    def test_lists_that_were_told_are_the_askers_own(self):
        web = small_web()
        for ask in (web.knots, lambda: web.marks("a"), lambda: web.steps("c")):
            told = ask()
            before = list(told)
            told.append(told[0])
            told[0] = "changed"
            self.assertEqual(ask(), before)
            ask().clear()
            self.assertEqual(ask(), before)
        self.assertEqual(web.rows(), SMALL)
        self.assert_whole(web)

    def test_later_deeds_do_not_change_what_was_told(self):
        web = small_web()
        told = (web.rows(), web.knots(), web.marks("c"), web.steps("c"), web.marks("a"))
        before = copy.deepcopy(told)
        web.put_mark("a", "green")
        web.put_mark("c", "green")
        web.put_tie("c", "likes", "a")
        web.put_knot("d", [])
        web.take_knot("b")
        web.take_tie("c", "owns", "c")
        self.assertEqual(told, before)


class PlainWeb:
    """A web told as plainly as the document tells it, to hold the program's own against."""

    def __init__(self):
        self.rows_of_knots = []
        self.ties = []

    def place(self, name):
        for number, (knot, marks) in enumerate(self.rows_of_knots):
            if knot == name:
                return number
        return None

    def need(self, *names):
        for name in names:
            if self.place(name) is None:
                raise errors.NoKnot(name)

    def put_knot(self, name, marks):
        if self.place(name) is not None:
            raise errors.Twice(name)
        if len(self.rows_of_knots) == 40:
            raise errors.TooMany("knots")
        self.rows_of_knots.append((name, list(marks)))

    def take_knot(self, name):
        self.need(name)
        self.rows_of_knots = [row for row in self.rows_of_knots if row[0] != name]
        self.ties = [tie for tie in self.ties if name not in (tie[0], tie[2])]

    def put_tie(self, one, word, other):
        self.need(one, other)
        if (one, word, other) in self.ties:
            raise errors.Twice(word)
        if len(self.ties) == 300:
            raise errors.TooMany("ties")
        self.ties.append((one, word, other))

    def take_tie(self, one, word, other):
        self.need(one, other)
        if (one, word, other) not in self.ties:
            raise errors.NoTie((one, word, other))
        self.ties.remove((one, word, other))

    def put_mark(self, knot, mark):
        self.need(knot)
        marks = self.rows_of_knots[self.place(knot)][1]
        if mark in marks:
            raise errors.Twice(mark)
        if len(marks) == 5:
            raise errors.TooMany("marks")
        marks.append(mark)

    def take_mark(self, knot, mark):
        self.need(knot)
        marks = self.rows_of_knots[self.place(knot)][1]
        if mark not in marks:
            raise errors.NoMark(mark)
        marks.remove(mark)

    def rows(self):
        knots = sorted((name, tuple(sorted(marks))) for name, marks in self.rows_of_knots)
        return (tuple(knots), tuple(sorted(self.ties)))


def some_deed(chance, names):
    deed = chance.choice(["put_knot"] * 3 + ["put_tie"] * 12 + ["put_mark"] * 4 + ["take_knot", "take_tie", "take_mark"])
    if deed == "put_knot":
        return (deed, chance.choice(names), chance.sample("mnopqr", chance.randrange(6)))
    if deed == "take_knot":
        return (deed, chance.choice(names))
    if deed in ("put_mark", "take_mark"):
        return (deed, chance.choice(names), chance.choice("mnopqr"))
    return (deed, chance.choice(names), chance.choice("uvw"), chance.choice(names))


def answer_of(web, deed):
    try:
        return ("told", getattr(web, deed[0])(*copy.deepcopy(deed[1:])))
    except errors.PathError as error:
        return (type(error).__name__, vars(error))


class AgainstThePlainWeb(Case):
    def run_beside(self, seed, names, many):
        chance = random.Random(seed)
        web, plain = Web(), PlainWeb()
        seen = {}
        for number in range(many):
            deed = some_deed(chance, names)
            answer = answer_of(web, deed)
            self.assertEqual(answer, answer_of(plain, deed), deed)
            self.assertEqual(web.rows(), plain.rows(), deed)
            seen[answer[0] + answer[1].get("word", "") if answer[1] else answer[0]] = True
            if number % 50 == 0:
                self.assert_whole(web)
                web = web.like()
        return seen

    def test_many_deeds(self):
        seen = {}
        for seed in range(4):
            seen.update(self.run_beside(seed, list("abcdef"), 600))
        seen.update(self.run_beside(9, [letters(number) for number in range(60)], 3000))
        self.assertLessEqual({"told", "NoKnot", "Twice", "NoTie", "NoMark", "TooManymarks"}, set(seen))


if __name__ == "__main__":
    unittest.main()
