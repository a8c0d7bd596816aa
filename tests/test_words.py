import copy
import unittest

from tests.things import NO_NUMBERS, NO_TEXTS
from wardsmith.words import is_name, is_whole, is_written, number_in, numbers_in

LETTERS = "abcdefghijklmnopqrstuvwxyz"


class Whole(unittest.TestCase):
    def test_whole_numbers(self):
        for thing in [0, 1, -1, 7, 1000, 10 ** 59, -(10 ** 59)]:
            with self.subTest(thing):
                self.assertIs(is_whole(thing), True)

    def test_truths_are_none(self):
        self.assertIs(is_whole(True), False)
        self.assertIs(is_whole(False), False)

    def test_other_things_are_none(self):
        for thing in [None, 0.0, 1.0, 1j, "", "1", b"1", [], [1], (), (1,), {}, {1: 1}, {1}, object(), int]:
            with self.subTest(repr(thing)):
                self.assertIs(is_whole(thing), False)


class Names(unittest.TestCase):
    def assert_name(self, thing, answer):
        with self.subTest(repr(thing)):
            self.assertIs(is_name(thing), answer)

    def test_one_letter(self):
        for letter in LETTERS:
            self.assert_name(letter, True)

    def test_one_sign_that_is_no_small_letter(self):
        for sign in [chr(code) for code in range(0x500) if chr(code) not in LETTERS]:
            self.assert_name(sign, False)

    def test_lengths(self):
        self.assert_name("", False)
        for length in range(1, 13):
            self.assert_name(LETTERS[:length], True)
            self.assert_name("z" * length, True)
        for length in range(13, 27):
            self.assert_name(LETTERS[:length], False)

    def test_the_five_words(self):
        for word in ["door", "key", "opens", "rules", "wing"]:
            self.assert_name(word, False)

    def test_the_five_words_with_a_letter_more_or_less(self):
        for word in ["door", "key", "opens", "rules", "wing"]:
            for near in [word[:-1], word[1:], word + "s", "a" + word, word + word[-1]]:
                self.assert_name(near, True)

    def test_words_of_the_bench_and_the_desk_are_names(self):
        for word in ["blank", "file", "pin", "bolt", "open", "plan", "tower", "lost", "none"]:
            self.assert_name(word, True)

    def test_wrong_signs_anywhere(self):
        for wrong in ["A", "Z", "0", "9", " ", "\n", "\r", "\t", "_", "-", ".", "=", ",", "`", "{", "\x00", "\u00e4",
                      "\u00df", "\uff41", "\u0430", "\u0131"]:
            for thing in [wrong, wrong + "ab", "a" + wrong + "b", "ab" + wrong]:
                self.assert_name(thing, False)

    def test_other_things(self):
        for thing in NO_TEXTS + [["a"], ("a",), {"a": "a"}, b"a", ["door"]]:
            self.assert_name(thing, False)


class Written(unittest.TestCase):
    def test_all_written_numbers(self):
        for number in range(1000):
            self.assertIs(is_written(str(number), 3), True, number)

    def test_others(self):
        for text in NO_NUMBERS:
            with self.subTest(repr(text)):
                self.assertIs(is_written(text, 3), False)

    def test_no_other_sign_is_a_figure(self):
        for sign in [chr(code) for code in range(0x500) if chr(code) not in "0123456789"]:
            self.assertIs(is_written(sign, 3), False, repr(sign))
            self.assertIs(is_written("1" + sign, 3), False, repr(sign))


class Number(unittest.TestCase):
    def test_as_many_figures_as_are_told(self):
        for most in [1, 3, 4, 60]:
            for figures in ["9" * most, "1" + "0" * (most - 1), "0"]:
                self.assertEqual(number_in(figures, most), int(figures))
            self.assertIsNone(number_in("1" + "0" * most, most))

    def test_what_is_no_number(self):
        for text in [text for text in NO_NUMBERS if text not in ["1000", "9999"]]:
            with self.subTest(repr(text)):
                self.assertIsNone(number_in(text, 60))


class Numbers(unittest.TestCase):
    def test_numbers_with_a_mark_between(self):
        self.assertEqual(numbers_in("0 999 7", " "), (0, 999, 7))
        self.assertEqual(numbers_in("0-999-7", "-"), (0, 999, 7))
        self.assertEqual(numbers_in("12", "-"), (12,))

    def test_a_part_that_is_no_number(self):
        for wrong in NO_NUMBERS:
            for text in [wrong, wrong + ";1", "1;" + wrong, "1;" + wrong + ";1"]:
                with self.subTest(repr(text)):
                    self.assertIsNone(numbers_in(text, ";"))

    def test_no_texts(self):
        for thing in NO_TEXTS:
            with self.subTest(repr(thing)):
                self.assertIsNone(numbers_in(thing, " "))


class HandedIn(unittest.TestCase):
    def test_it_stays_as_it_was(self):
        for thing in [["a", ["b"]], {"a": ["b"]}, ["1", 2]]:
            before = copy.deepcopy(thing)
            is_whole(thing)
            is_name(thing)
            numbers_in(thing, " ")
            self.assertEqual(thing, before)


if __name__ == "__main__":
    unittest.main()
