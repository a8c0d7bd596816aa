import copy
import itertools
import unittest

from tests.things import NO_NUMBERS, NO_TEXTS
from wardsmith.errors import NoRules
from wardsmith.rules import is_rules, read_rules, shown_rules

EDGES = [(1, 2, 1, 1), (24, 2, 1, 1), (1, 20, 1, 1), (1, 20, 20, 19), (24, 20, 20, 19), (1, 2, 2, 1), (5, 6, 6, 5),
         (5, 6, 1, 5), (5, 6, 6, 1), (10, 10, 10, 9)]

BEYOND = [(0, 2, 1, 1), (25, 2, 1, 1), (-1, 2, 1, 1), (1, 1, 1, 1), (1, 1, 1, 0), (1, 0, 0, 0), (1, 21, 1, 1),
          (1, 21, 21, 20), (5, 6, 0, 1), (5, 6, 7, 1), (5, 6, -1, 1), (5, 6, 1, 0), (5, 6, 1, 6), (5, 6, 1, -1),
          (5, 2, 1, 2), (5, 2, 3, 1), (5, 20, 21, 1), (5, 20, 1, 20), (999, 2, 1, 1), (1, 999, 1, 1),
          (10 ** 59, 2, 1, 1), (1, 10 ** 59, 1, 1)]

WRONG_KINDS = [(), (1,), (5, 6, 2), (5, 6, 2, 3, 1), (5, 6, 2, 3, 3, 1), [5, 6, 2, 3], "5623", "5 6 2 3",
               (True, 6, 2, 3), (5, 6, True, 3), (5, 6, 2, True), (5, True, 1, 1), (5, 6, 2, False),
               (5.0, 6, 2, 3), (5, 6.0, 2, 3), (5, 6, 2.0, 3), (5, 6, 2, 3.0), ("5", 6, 2, 3), (5, "6", 2, 3),
               (5, 6, "2", 3), (5, 6, 2, "3"), (None, 6, 2, 3), (5, None, 2, 3), (5, 6, None, 3), (5, 6, 2, None),
               (5, 6, 2, (3,)), (5, 6, 2, [3]), ((5, 6, 2, 3),), {5: 1, 6: 1, 2: 1, 3: 1}, {5, 6, 2, 3}, None, 5, 4,
               True, 2.5, b"5623", "", [], {}, set(), range(4), object(), tuple]


def told_rules(places, depths, heights, step):
    return places in range(1, 25) and depths in range(2, 21) and heights in range(1, depths + 1) and \
        step in range(1, depths)


class IsRules(unittest.TestCase):
    def test_edges(self):
        for thing in EDGES:
            with self.subTest(thing):
                self.assertIs(is_rules(thing), True)

    def test_one_beyond(self):
        for thing in BEYOND:
            with self.subTest(thing):
                self.assertIs(is_rules(thing), False)

    def test_all_around_the_bounds(self):
        for thing in itertools.product([0, 1, 2, 24, 25], range(23), range(-1, 23), range(-1, 23)):
            self.assertIs(is_rules(thing), told_rules(*thing), thing)

    def test_other_things(self):
        for thing in WRONG_KINDS:
            with self.subTest(repr(thing)):
                self.assertIs(is_rules(thing), False)

    def test_what_is_handed_in_stays_as_it_was(self):
        for thing in [[5, 6, 2, 3], (5, 6, 2, [3]), {5: [6]}]:
            before = copy.deepcopy(thing)
            is_rules(thing)
            self.assertEqual(thing, before)


class Reading(unittest.TestCase):
    def assert_refused(self, thing):
        with self.subTest(repr(thing)):
            with self.assertRaises(NoRules) as taken:
                read_rules(thing)
            self.assertEqual(type(taken.exception), NoRules)

    def test_it_reads_a_tuple_of_whole_numbers(self):
        rules = read_rules("5 6 2 3")
        self.assertEqual(rules, (5, 6, 2, 3))
        self.assertEqual([type(rules)] + [type(number) for number in rules], [tuple, int, int, int, int])

    def test_edges_are_read_and_shown(self):
        for rules in EDGES:
            with self.subTest(rules):
                text = f"{rules[0]} {rules[1]} {rules[2]} {rules[3]}"
                self.assertEqual(shown_rules(rules), text)
                self.assertEqual(read_rules(text), rules)

    def test_one_beyond_is_refused(self):
        for rules in BEYOND:
            self.assert_refused(" ".join([str(number) for number in rules]))

    def test_no_written_numbers_are_refused(self):
        for place in range(4):
            for wrong in NO_NUMBERS + ["0", "999"]:
                words = ["5", "6", "2", "3"]
                words[place] = wrong
                self.assert_refused(" ".join(words))

    def test_naughts_ahead_are_refused(self):
        for text in ["05 6 2 3", "5 06 2 3", "5 6 02 3", "5 6 2 03", "5 006 2 3", "005 006 002 003"]:
            self.assert_refused(text)

    def test_a_number_more_or_less_is_refused(self):
        for text in ["", "5", "5 6", "5 6 2", "5 6 2 3 1", "5 6 2 3 3 3"]:
            self.assert_refused(text)

    def test_other_partings_are_refused(self):
        for text in [" ", "5  6 2 3", "5 6 2  3", " 5 6 2 3", "5 6 2 3 ", "5 6 2 3\n", "\n5 6 2 3", "5\t6\t2\t3",
                     "5\n6\n2\n3", "5-6-2-3", "5,6,2,3", "5, 6, 2, 3", "(5, 6, 2, 3)", "5\u00a06\u00a02\u00a03",
                     "rules 5 6 2 3", "5623"]:
            self.assert_refused(text)

    def test_what_is_no_text_is_refused(self):
        for thing in NO_TEXTS + [(5, 6, 2, 3), [5, 6, 2, 3], ["5 6 2 3"], b"5 6 2 3", ("5", "6", "2", "3")]:
            self.assert_refused(thing)

    def test_what_is_refused_stays_as_it_was(self):
        thing = ["5", "6", "2", "3"]
        self.assert_refused(thing)
        self.assertEqual(thing, ["5", "6", "2", "3"])


if __name__ == "__main__":
    unittest.main()
