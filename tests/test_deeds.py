import itertools
import re
import unittest

from tests.things import NO_NUMBERS, NO_TEXTS, Asker
from wardsmith.deeds import Blank, Bolt, Deed, File, Open, Pin, read_deed
from wardsmith.errors import NoDeed

RULES = (3, 6, 2, 1)

ROWS = {
    "blank anna": (Blank, {"key": "anna"}),
    "file anna 2 5": (File, {"key": "anna", "place": 2, "depth": 5}),
    "pin front 2 0,3": (Pin, {"door": "front", "place": 2, "heights": (0, 3)}),
    "pin front 0 4": (Pin, {"door": "front", "place": 0, "heights": (4,)}),
    "bolt front": (Bolt, {"door": "front"}),
    "open front": (Open, {"door": "front"}),
}


class Deeds(unittest.TestCase):
    def test_each_is_a_deed(self):
        self.assertIsInstance(Deed(), Deed)
        for kind in [Blank, File, Pin, Bolt, Open]:
            self.assertEqual(kind.__bases__, (Deed,))

    def test_fields_and_rows(self):
        for row, (kind, fields) in ROWS.items():
            with self.subTest(row):
                for deed in [kind(*fields.values()), kind(**fields)]:
                    self.assertIsInstance(deed, Deed)
                    self.assertEqual(vars(deed), fields)
                    self.assertEqual(deed.shown(), row)

    def test_numbers_of_two_figures(self):
        self.assertEqual(File("k", 23, 19).shown(), "file k 23 19")
        self.assertEqual(Pin("d", 10, (0, 9, 10, 19)).shown(), "pin d 10 0,9,10,19")


class Reading(Asker):
    def assert_none(self, *rows):
        for row in rows:
            self.assert_refused(NoDeed, {}, read_deed, RULES, row)

    def test_ordinary(self):
        for row, (kind, fields) in ROWS.items():
            with self.subTest(row):
                deed = read_deed(RULES, row)
                self.assertIs(type(deed), kind)
                self.assertEqual(repr(vars(deed)), repr(fields))
                self.assertEqual(deed.shown(), row)

    def test_no_texts(self):
        for thing in NO_TEXTS + [["blank", "anna"], ("bolt", "a"), b"blank a", Blank("a")]:
            with self.subTest(repr(thing)):
                with self.assertRaises(NoDeed) as taken:
                    read_deed(RULES, thing)
                self.assertIs(type(taken.exception), NoDeed)

    def test_no_words_and_other_words(self):
        self.assert_none("", " ", "\n", "blank", "file", "pin", "bolt", "open", "a", "cut a", "Blank a", "BOLT a", "a a",
                         "blanka", "door a", "key a", "files a 0 1", "pins a 0 1", "opens a", "close a", "- a", "bolt-a")

    def test_a_word_too_few_and_too_many(self):
        for row in ROWS:
            words = row.split(" ")
            self.assert_none(" ".join(words[:-1]), row + " a", row + " 0", row + " " + words[-1], words[0] + " " + row)
            for place in range(len(words)):
                self.assert_none(" ".join(words[:place] + words[place + 1:]))

    def test_a_blank_more_or_less(self):
        for row in ROWS:
            self.assert_none(" " + row, row + " ", row + "\n", "\n" + row, row + "\t", row.replace(" ", ""))
            for place in [place for place, sign in enumerate(row) if sign == " "]:
                for wrong in ["", "  ", "\t", "\n", "\u00a0", " \n", "\u2003"]:
                    self.assert_none(row[:place] + wrong + row[place + 1:])

    def test_a_word_without_signs(self):
        self.assert_none("blank ", "bolt ", "open ", "file  0 1", "file a  1", "file a 0 ", "pin  0 1", "pin a  1",
                         "pin a 0 ")

    def test_names(self):
        for row in ["blank {}", "file {} 0 1", "pin {} 0 1", "bolt {}", "open {}"]:
            for name in ["a", "abcdefghijkl", "blank", "file", "pin", "bolt", "open", "plan", "doors", "keys"]:
                self.assertEqual(read_deed(RULES, row.format(name)).shown(), row.format(name))
            for name in ["", "abcdefghijklm", "door", "key", "opens", "rules", "wing", "A", "aB", "a1", "1", "a-b", "a,b",
                         "\u00e4", "a\n", "a\t", "_", "-"]:
                self.assert_none(row.format(name))

    def test_numbers(self):
        for wrong in NO_NUMBERS:
            self.assert_none(f"file a {wrong} 1", f"file a 0 {wrong}", f"pin a {wrong} 1", f"pin a 0 {wrong},5")
            if wrong != "1,2":
                self.assert_none(f"pin a 0 {wrong}", f"pin a 0 0,{wrong}")

    def test_places(self):
        for rules in [RULES, (1, 2, 1, 1), (24, 20, 20, 19), (12, 2, 1, 1)]:
            for place in range(30):
                for row in [f"file a {place} 1", f"pin a {place} 1"]:
                    if place < rules[0]:
                        self.assertEqual(read_deed(rules, row).place, place)
                    else:
                        self.assert_refused(NoDeed, {}, read_deed, rules, row)
            for row in ["file a -1 1", "pin a -1 1", "file a 999 1", "pin a 999 1"]:
                self.assert_refused(NoDeed, {}, read_deed, rules, row)

    def test_depths(self):
        for rules in [RULES, (1, 2, 1, 1), (24, 20, 20, 19), (12, 10, 1, 1)]:
            for depth in range(30):
                if depth < rules[1]:
                    self.assertEqual(read_deed(rules, f"file a 0 {depth}").depth, depth)
                    self.assertEqual(read_deed(rules, f"pin a 0 {depth}").heights, (depth,))
                else:
                    self.assert_refused(NoDeed, {}, read_deed, rules, f"file a 0 {depth}")
                    self.assert_refused(NoDeed, {}, read_deed, rules, f"pin a 0 {depth}")

    def test_heights(self):
        self.assert_none("pin a 0 1,0", "pin a 0 5,0", "pin a 0 0,0", "pin a 0 3,3", "pin a 0 0,1,2", "pin a 0 0,1,1",
                         "pin a 0 5,6", "pin a 0 0,6", "pin a 0 ,", "pin a 0 0,", "pin a 0 ,0", "pin a 0 0,,1",
                         "pin a 0 0-1", "pin a 0 0;1", "pin a 0 0 1", "pin a 0 0, 1", "pin a 0 (0,1)", "pin a 0 -")
        self.assertEqual(read_deed(RULES, "pin a 0 0,5").heights, (0, 5))

    def test_as_many_heights_as_the_rules_allow(self):
        for heights in range(1, 7):
            for many in range(1, 7):
                row = "pin a 0 " + ",".join(str(height) for height in range(many))
                if many <= heights:
                    self.assertEqual(read_deed((3, 6, heights, 1), row).heights, tuple(range(many)))
                else:
                    self.assert_refused(NoDeed, {}, read_deed, (3, 6, heights, 1), row)

    def test_rows_of_other_kinds_with_the_wrong_last_word(self):
        self.assert_none("file a 0 0,1", "file a 0 a", "pin a 0 a", "blank a 0 1", "bolt a 0 1", "open a 0 1", "file a",
                         "pin a", "file a 0", "pin a 0", "blank a 0", "bolt a 0", "open a 0", "file 0 a 1", "pin 0 a 1")


# The document's words, as a pattern of whole rows by the rules (2, 3, 2, 1).
NAME = "(blank|bolt|open|file|pin|a|b)"
PATTERN = re.compile(f"(blank|bolt|open) {NAME}|file {NAME} [01] [012]|pin {NAME} [01] ([012]|0,1|0,2|1,2)")
WORDS = ["blank", "bolt", "open", "file", "pin", "a", "b", "key", "", "0", "1", "2", "3", "00", "0,1", "0,2", "1,2",
         "2,1", "1,1", "0,1,2", "0,"]


class AllSmallRows(unittest.TestCase):
    def test_they_are_read_just_where_the_document_tells_them(self):
        taken = 0
        for many in range(1, 5):
            for words in itertools.product(WORDS, repeat=many):
                row = " ".join(words)
                taken += self.is_read(row)
                self.assertEqual(self.is_read(row), PATTERN.fullmatch(row) is not None, row)
        self.assertEqual(taken, 3 * 7 + 7 * 2 * 3 + 7 * 2 * 6)

    def is_read(self, row):
        try:
            deed = read_deed((2, 3, 2, 1), row)
        except NoDeed:
            return False
        return deed.shown() == row


if __name__ == "__main__":
    unittest.main()
