import random
import unittest

from pathask.errors import NoText, PathError
from pathask.patterns import is_pattern, parts_in
from pathask.texts import read_pattern, read_way, shown, shown_way
from plainly import STAY, back, either, many, on, some_pattern, some_way, some_web, then

WRITTEN = {
    "stay": STAY,
    "on likes": on("likes"),
    "back likes": back("likes"),
    "on *": on("*"),
    "back *": back("*"),
    "at red": ("at", "red"),
    "off red": ("off", "red"),
    "then 0": then(),
    "either 0": either(),
    "then 1 stay": then(STAY),
    "either 1 stay": either(STAY),
    "then 2 on a back b": then(on("a"), back("b")),
    "either 3 stay at m many off n": either(STAY, ("at", "m"), many(("off", "n"))),
    "many stay": many(STAY),
    "many many on a": many(many(on("a"))),
    "many then 2 either 2 on a back * stay": many(then(either(on("a"), back("*")), STAY)),
    "then 3 then 2 stay stay either 0 then 1 on a": then(then(STAY, STAY), either(), then(on("a"))),
    "on on": on("on"),
    "back back": back("back"),
    "on many": on("many"),
    "at at": ("at", "at"),
    "off then": ("off", "then"),
    "at off": ("at", "off"),
    "then 3 on then at many many on stay": then(on("then"), ("at", "many"), many(on("stay"))),
    "on abcdefgh": on("abcdefgh"),
}


class Case(unittest.TestCase):
    def assert_refused(self, read, text, at):
        with self.assertRaises(PathError, msg=repr(text)) as taken:
            read(text)
        self.assertIs(type(taken.exception), NoText, repr(text))
        self.assertEqual(taken.exception.at, at, repr(text))
        self.assertIs(type(taken.exception.at), int)


class ShownPatterns(Case):
    def test_each_sort(self):
        for text, pattern in WRITTEN.items():
            self.assertEqual(shown(pattern), text)

    def test_numbers_of_one_and_two_figures(self):
        for count in range(40):
            self.assertEqual(shown(then(*[STAY] * count)), " ".join(["then", str(count)] + ["stay"] * count))
            self.assertEqual(shown(either(*[STAY] * count)), " ".join(["either", str(count)] + ["stay"] * count))

    def test_those_within_go_in_their_order(self):
        pattern = then(on("a"), either(on("b"), then(on("c"), on("d")), on("e")), many(either(on("f"), on("g"))), on("h"))
        self.assertEqual(
            shown(pattern), "then 4 on a either 3 on b then 2 on c on d on e many either 2 on f on g on h")


class ShownWays(Case):
    def test_none_one_and_several_steps(self):
        self.assertEqual(shown_way(("ann", ())), "ann")
        self.assertEqual(shown_way(("ann", (("on", "likes", "bob"),))), "ann on likes bob")
        self.assertEqual(
            shown_way(("a", (("on", "u", "b"), ("back", "v", "c"), ("back", "w", "c")))), "a on u b back v c back w c")

    def test_names_that_are_words_of_the_texts(self):
        self.assertEqual(shown_way(("on", (("back", "on", "then"), ("on", "many", "back")))),
                         "on back on then on many back")

    def test_a_way_longer_than_sixty_steps(self):
        self.assertEqual(shown_way(("a", (("on", "u", "a"),) * 100)), "a" + " on u a" * 100)


class ReadPatterns(Case):
    def test_each_sort(self):
        for text, pattern in WRITTEN.items():
            self.assertEqual(read_pattern(text), pattern)

    def test_what_was_shown_gives_the_same_again(self):
        chance = random.Random(15)
        greatest = 0
        for number in range(600):
            pattern = some_pattern(chance, chance.randint(1, 40), chance.randint(1, 10), ("u", "on", "stay"), ("at", "m"))
            self.assertIs(is_pattern(pattern), True)
            told = read_pattern(shown(pattern))
            self.assertEqual(told, pattern)
            self.assertIs(is_pattern(told), True)
            greatest = max(greatest, parts_in(pattern))
        self.assertEqual(greatest, 40)

    def test_every_number(self):
        for count in range(40):
            self.assertEqual(read_pattern(" ".join(["either", str(count)] + ["stay"] * count)), either(*[STAY] * count))

    def test_none_of_the_eight_words(self):
        for word in ("step", "leaf", "Stay", "STAY", "a", "*", "0", "1", "stay,", "ons", "o", "stay\n"):
            self.assert_refused(read_pattern, word, 0)
            self.assert_refused(read_pattern, word + " on a", 0)
            self.assert_refused(read_pattern, "many " + word, 1)
            self.assert_refused(read_pattern, "then 3 on a " + word + " stay", 4)
            self.assert_refused(read_pattern, "then 2 many many stay " + word, 5)

    def test_no_name_behind_on_or_back(self):
        for word in ("A", "abcdefghi", "a1", "0", "**", "-", "a*", "*a", "Likes"):
            for side in ("on", "back"):
                self.assert_refused(read_pattern, side + " " + word, 1)
                self.assert_refused(read_pattern, "then 2 stay " + side + " " + word + " more", 4)

    def test_no_name_behind_at_or_off(self):
        for word in ("A", "abcdefghi", "a1", "0", "**", "-", "*"):
            for sort in ("at", "off"):
                self.assert_refused(read_pattern, sort + " " + word, 1)
                self.assert_refused(read_pattern, "many either 1 " + sort + " " + word, 4)

    def test_no_number_behind_then_or_either(self):
        words = ["40", "41", "99", "100", "00", "01", "07", "09", "010", "-1", "-0", "+1", "1.", "1_0", "0x1", "a", "*",
                 "stay", "one", "1a", "39.0", "1e1"]
        for word in words:
            for sort in ("then", "either"):
                self.assert_refused(read_pattern, sort + " " + word, 1)
                self.assert_refused(read_pattern, sort + " " + word + " stay", 1)
                self.assert_refused(read_pattern, "many " + sort + " " + word + " stay", 2)

    def test_signs_that_python_takes_for_figures(self):
        for word in ("\u0661", "\u00b2", "\uff11"):
            self.assert_refused(read_pattern, "then " + word + " stay", 1)

    def test_one_word_too_many(self):
        self.assert_refused(read_pattern, "stay stay", 1)
        self.assert_refused(read_pattern, "stay on a", 1)
        self.assert_refused(read_pattern, "on a b", 2)
        self.assert_refused(read_pattern, "then 0 stay", 2)
        self.assert_refused(read_pattern, "then 1 stay stay A A", 3)
        self.assert_refused(read_pattern, "many on a *", 3)

    def test_blanks(self):
        self.assert_refused(read_pattern, "", 0)
        self.assert_refused(read_pattern, " ", 0)
        self.assert_refused(read_pattern, "  ", 0)
        self.assert_refused(read_pattern, " stay", 0)
        self.assert_refused(read_pattern, "stay ", 1)
        self.assert_refused(read_pattern, "on  a", 1)
        self.assert_refused(read_pattern, "on ", 1)
        self.assert_refused(read_pattern, "at ", 1)
        self.assert_refused(read_pattern, "on a ", 2)
        self.assert_refused(read_pattern, "then  1 stay", 1)
        self.assert_refused(read_pattern, "then ", 1)
        self.assert_refused(read_pattern, "then 2 stay  stay", 3)
        self.assert_refused(read_pattern, "then 2 stay ", 3)
        self.assert_refused(read_pattern, "many  stay", 1)
        self.assert_refused(read_pattern, "on\ta", 0)
        self.assert_refused(read_pattern, "on\na", 0)

    def test_words_that_lack(self):
        for text in ("on", "back", "at", "off", "then", "either", "many", "many many", "then 1", "then 39", "either 2 on",
                     "either 2 on a", "then 2 then 2 stay stay", "then 2 many", "many then 3 at m on *"):
            self.assert_refused(read_pattern, text, len(text.split(" ")))

    def test_every_cut_of_a_text_lacks_words(self):
        words = "then 3 many either 2 on a back * then 1 at m either 2 stay off n".split(" ")
        read_pattern(" ".join(words))
        for many_words in range(1, len(words)):
            self.assert_refused(read_pattern, " ".join(words[:many_words]), many_words)

    def test_the_forty_first_pattern(self):
        read_pattern("then 39" + " stay" * 39)
        self.assert_refused(read_pattern, "then 39" + " stay" * 38 + " many stay", 41)
        self.assert_refused(read_pattern, "many then 39" + " stay" * 39, 41)
        self.assert_refused(read_pattern, "many then 39" + " on a" * 38, 79)
        self.assert_refused(read_pattern, "many then 39" + " on a" * 39, 79)
        self.assert_refused(read_pattern, "many then 39" + " on a" * 38 + " nonsense", 79)
        half = "then 19" + " stay" * 19
        self.assert_refused(read_pattern, f"either 2 {half} {half}", 2 + 2 * 21 - 1)
        read_pattern(f"either 2 {half} then 18" + " stay" * 18)
        self.assert_refused(read_pattern, f"either 3 {half} then 18" + " stay" * 18 + " then 0", 2 + 21 + 20)

    def test_the_first_bad_word_goes_ahead_of_the_forty_first_pattern(self):
        self.assert_refused(read_pattern, "many then 39 on A" + " stay" * 38, 4)

    def test_the_eleventh_within_one_another(self):
        read_pattern("many " * 9 + "stay")
        read_pattern("many " * 9 + "then 0")
        self.assert_refused(read_pattern, "many " * 10 + "stay", 10)
        self.assert_refused(read_pattern, "many " * 10, 10)
        self.assert_refused(read_pattern, "many " * 11 + "stay", 10)
        self.assert_refused(read_pattern, "many " * 9 + "many", 10)
        self.assert_refused(read_pattern, "many " * 9 + "then 1 stay", 11)
        self.assert_refused(read_pattern, "many " * 9 + "then 1", 11)
        self.assert_refused(read_pattern, "then 1 " * 10 + "stay", 20)
        self.assert_refused(read_pattern, "many " * 300 + "stay", 10)
        self.assert_refused(read_pattern, "then 2 stay " + "many " * 9 + "stay", 12)
        read_pattern("then 2 " + "many " * 8 + "stay " + "many " * 8 + "on a")

    def test_what_is_read_is_of_tuples(self):
        self.assertIs(is_pattern(read_pattern("then 2 either 1 on a many stay")), True)

    def test_texts_with_one_word_changed(self):
        chance = random.Random(16)
        words = ["stay", "on", "back", "at", "off", "then", "either", "many", "0", "1", "2", "a", "*", "", "A"]
        read = 0
        for number in range(3000):
            text = shown(some_pattern(chance, chance.randint(1, 9))).split(" ")
            text[chance.randrange(len(text))] = chance.choice(words)
            told = first_bad_word(text)
            if told is None:
                self.assertEqual(shown(read_pattern(" ".join(text))), " ".join(text))
                read += 1
            else:
                self.assert_refused(read_pattern, " ".join(text), told)
        self.assertGreater(read, 100)


def first_bad_word(words):
    """By a list of what is still awaited, for texts within the bounds of count and depth."""
    awaited = ["pattern"]
    for at, word in enumerate(words):
        if not awaited:
            return at
        wanted = awaited.pop()
        name = word.isalpha() and word.islower() and len(word) <= 8
        if wanted == "pattern":
            behind = {"stay": [], "on": ["word"], "back": ["word"], "at": ["mark"], "off": ["mark"],
                      "then": ["number"], "either": ["number"], "many": ["pattern"]}
            if word not in behind:
                return at
            awaited += behind[word]
        elif wanted == "number":
            if not word.isdigit():
                return at
            awaited += ["pattern"] * int(word)
        elif not name and not (wanted == "word" and word == "*"):
            return at
    return len(words) if awaited else None


class ReadWays(Case):
    def test_none_one_and_several_steps(self):
        self.assertEqual(read_way("ann"), ("ann", ()))
        self.assertEqual(read_way("ann on likes bob"), ("ann", (("on", "likes", "bob"),)))
        self.assertEqual(
            read_way("a on u b back v c back w c"), ("a", (("on", "u", "b"), ("back", "v", "c"), ("back", "w", "c"))))

    def test_names_that_are_words_of_the_texts(self):
        way = ("on", (("back", "on", "then"), ("on", "many", "back")))
        self.assertEqual(read_way("on back on then on many back"), way)
        self.assertEqual(read_way("stay"), ("stay", ()))

    def test_what_was_shown_gives_the_same_again(self):
        chance = random.Random(17)
        for number in range(200):
            way = some_way(chance, some_web(chance, 5, 9, ("on", "back", "u")), chance.randint(0, 60))
            self.assertEqual(read_way(shown_way(way)), way)

    def test_what_is_read_is_of_tuples(self):
        told = read_way("a on u b back v c")
        self.assertEqual([type(told), type(told[1])] + [type(step) for step in told[1]], [tuple] * 4)

    def test_no_name(self):
        for word in ("A", "abcdefghi", "a1", "*", "0", "-"):
            self.assert_refused(read_way, word, 0)
            self.assert_refused(read_way, word + " on u b", 0)
            self.assert_refused(read_way, "a on " + word + " b", 2)
            self.assert_refused(read_way, "a on u " + word, 3)
            self.assert_refused(read_way, "a on u b back " + word + " B", 5)
            self.assert_refused(read_way, "a on u b back v " + word + " more", 6)

    def test_neither_side(self):
        for word in ("off", "at", "On", "a", "*", "step", "many"):
            self.assert_refused(read_way, "a " + word, 1)
            self.assert_refused(read_way, "a " + word + " u b", 1)
            self.assert_refused(read_way, "a on u b " + word + " v c", 4)

    def test_blanks(self):
        self.assert_refused(read_way, "", 0)
        self.assert_refused(read_way, " ", 0)
        self.assert_refused(read_way, " a", 0)
        self.assert_refused(read_way, "a ", 1)
        self.assert_refused(read_way, "a  on u b", 1)
        self.assert_refused(read_way, "a on  u b", 2)
        self.assert_refused(read_way, "a on u  b", 3)
        self.assert_refused(read_way, "a on u b ", 4)
        self.assert_refused(read_way, "a\ton u b", 0)

    def test_words_that_lack(self):
        for text in ("a on", "a on u", "a back", "a on u b on", "a on u b back v", "a" + " on u a" * 59 + " on u"):
            self.assert_refused(read_way, text, len(text.split(" ")))

    def test_the_sixty_first_side(self):
        self.assertEqual(read_way("a" + " on u a" * 60), ("a", (("on", "u", "a"),) * 60))
        self.assert_refused(read_way, "a" + " on u a" * 61, 181)
        self.assert_refused(read_way, "a" + " on u a" * 60 + " back", 181)
        self.assert_refused(read_way, "a" + " on u a" * 60 + " nonsense", 181)
        self.assert_refused(read_way, "a" + " on u a" * 60 + " ", 181)
        self.assert_refused(read_way, "a" + " on u a" * 100, 181)
        self.assert_refused(read_way, "a" + " on u a" * 59 + " on U a" + " on u a" * 9, 179)


if __name__ == "__main__":
    unittest.main()
