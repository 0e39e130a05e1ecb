"""Point 10: whole numbers and names, asked of any thing."""

import unittest

from mightever.words import is_name, is_whole

NO_TEXTS = [None, True, False, 0, 1, 3.0, b"ann", [], ["ann"], ["a", "b"], (), ("a",), {}, {"a": 1}, {"a"}, object(), str]


class TestWhole(unittest.TestCase):
    def test_whole_numbers(self):
        for thing in [0, 1, -1, 2, 7, -12, 4095, 10 ** 60, -10 ** 60]:
            self.assertIs(is_whole(thing), True, thing)

    def test_truths_are_no_whole_numbers(self):
        self.assertIs(is_whole(True), False)
        self.assertIs(is_whole(False), False)

    def test_other_things_are_no_whole_numbers(self):
        for thing in [None, "", "1", "12", 1.0, 0.5, b"1", [], [1], (), (1,), {}, {1: 1}, {1}, object(), int]:
            self.assertIs(is_whole(thing), False, repr(thing))


class TestName(unittest.TestCase):
    def test_lengths(self):
        for length in range(9):
            self.assertIs(is_name("abcdefgh"[:length]), 1 <= length <= 6, length)
        self.assertIs(is_name("a" * 4000), False)

    def test_every_small_letter(self):
        for letter in "abcdefghijklmnopqrstuvwxyz":
            for text in [letter, letter * 6, "m" + letter, letter + "m"]:
                self.assertIs(is_name(text), True, text)

    def test_every_other_sign_at_every_place(self):
        others = [chr(code) for code in range(256) if not 97 <= code <= 122]
        # Letters that are small, or digits, but no ASCII ones.
        others = others + ["\u00df", "\u00e9", "\u0131", "\u03b1", "\u0430", "\u0660", "\uff41", "\u00aa", "\U0001d41a"]
        for sign in others:
            for text in [sign, sign + "ab", "a" + sign + "b", "ab" + sign, "abcde" + sign]:
                self.assertIs(is_name(text), False, repr(text))

    def test_told_texts(self):
        for text in ["Ann", "ANN", "aNn", "ann1", "1", "a b", " ann", "ann ", "ann\n", "a_b", "a-b", ""]:
            self.assertIs(is_name(text), False, repr(text))

    def test_other_things_are_no_names(self):
        for thing in NO_TEXTS:
            self.assertIs(is_name(thing), False, repr(thing))

    def test_what_is_asked_of_is_not_changed(self):
        thing = ["a", "b"]
        is_name(thing)
        is_whole(thing)
        self.assertEqual(thing, ["a", "b"])


if __name__ == "__main__":
    unittest.main()
