import string
import unittest

from pathask.names import is_name, name_of

SIGNS = [chr(number) for number in range(32, 127) if chr(number) != "%"]


class Names(unittest.TestCase):
    def assert_name(self, thing):
        self.assertIs(is_name(thing), True, repr(thing))

    def assert_none(self, thing):
        self.assertIs(is_name(thing), False, repr(thing))

    def test_one_to_eight_small_letters(self):
        for many in range(1, 9):
            self.assert_name("abcdefgh"[:many])
            self.assert_name("z" * many)

    def test_every_small_letter_in_every_place(self):
        for letter in string.ascii_lowercase:
            self.assert_name(letter)
            for place in range(8):
                self.assert_name("m" * place + letter + "m" * (7 - place))

    def test_the_text_without_signs(self):
        self.assert_none("")

    def test_nine_letters_and_more(self):
        self.assert_none("abcdefghi")
        self.assert_none("a" * 10)
        self.assert_none("a" * 2000)

    def test_any_other_sign_anywhere(self):
        for sign in SIGNS:
            if sign in string.ascii_lowercase:
                continue
            self.assert_none(sign)
            for many in (1, 4, 7):
                for place in range(many + 1):
                    self.assert_none("a" * place + sign + "a" * (many - place))

    def test_texts_like_names(self):
        for text in ("Ann", "ANN", "anN", "a1", "1", "a b", " a", "a ", "*", "a-b", "a_b", "_", "`", "{"):
            self.assert_none(text)

    def test_letters_beyond_z(self):
        for text in ("\u00e4", "\u00df", "\u0430", "a\u0301", "\uff41", "\u00aa"):
            self.assert_none(text)

    def test_a_row_end_behind_a_name(self):
        self.assert_none("a\n")
        self.assert_none("\na")

    def test_things_that_are_no_texts(self):
        for thing in (0, 1, -1, 8, 10 ** 19, True, False, None, (), [], ("a",), ["a"], ("a", "b"), ["a", "b"]):
            self.assert_none(thing)

    def test_things_within_things(self):
        for thing in ((("a",),), [["a"]], ([], ()), (None, ["a", 1]), [("a", True)]):
            self.assert_none(thing)

    def test_a_deep_thing_and_a_great_one(self):
        deep = "a"
        for many in range(40):
            deep = [deep] if many % 2 else (deep,)
        self.assert_none(deep)
        self.assert_none(["a"] * 999)
        self.assert_none(("a",) * 999)


class NamesOfNumbers(unittest.TestCase):
    def test_each_number_has_a_name_of_its_own(self):
        names = [name_of(number) for number in range(20000)]
        self.assertEqual(len(set(names)), 20000)
        self.assertTrue(all(is_name(name) for name in names))

    def test_great_numbers(self):
        names = [name_of(number) for number in (26 ** 7 - 1, 26 ** 7, 26 ** 8 - 1)]
        self.assertEqual(names, ["z" * 7, "b" + "a" * 7, "z" * 8])


if __name__ == "__main__":
    unittest.main()
