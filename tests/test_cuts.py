import copy
import itertools
import unittest

from tests.things import NO_NUMBERS, NO_TEXTS, all_cuts
from wardsmith.cuts import can_file, first_cuts, is_cuts, next_cuts, read_cuts, shown_cuts
from wardsmith.errors import NoCuts

RULES = (3, 6, 2, 3)

SMALL_RULES = [(1, 2, 1, 1), (1, 5, 1, 1), (1, 5, 5, 4), (2, 2, 1, 1), (2, 4, 2, 1), (2, 4, 2, 2), (2, 4, 2, 3),
               (3, 2, 2, 1), (3, 4, 1, 1), (3, 4, 1, 2), (3, 4, 1, 3), (3, 6, 2, 3), (4, 3, 1, 1), (4, 5, 1, 2),
               (5, 3, 1, 1), (5, 3, 1, 2)]


class IsCuts(unittest.TestCase):
    def assert_cuts(self, rules, thing, answer):
        with self.subTest(f"{rules} {thing!r}"):
            self.assertIs(is_cuts(rules, thing), answer)

    def test_ordinary(self):
        for thing in [(0, 0, 0), (0, 3, 5), (5, 5, 5), (2, 1, 4), (5, 2, 0)]:
            self.assert_cuts(RULES, thing, True)

    def test_depths(self):
        self.assert_cuts((1, 6, 2, 3), (0,), True)
        self.assert_cuts((1, 6, 2, 3), (5,), True)
        self.assert_cuts((1, 6, 2, 3), (6,), False)
        self.assert_cuts((1, 6, 2, 3), (-1,), False)
        self.assert_cuts((1, 6, 2, 3), (10 ** 59,), False)
        self.assert_cuts((1, 20, 1, 1), (19,), True)
        self.assert_cuts((1, 20, 1, 1), (20,), False)

    def test_neighbours_just_step_apart_and_one_more(self):
        for thing, answer in [((0, 3, 0), True), ((0, 4, 1), False), ((4, 0, 0), False), ((3, 0, 3), True),
                              ((1, 1, 5), False), ((5, 5, 1), False), ((5, 2, 5), True), ((0, 3, 5), True)]:
            self.assert_cuts(RULES, thing, answer)

    def test_the_first_and_the_last_are_no_neighbours(self):
        self.assert_cuts(RULES, (0, 2, 5), True)
        self.assert_cuts(RULES, (5, 3, 0), True)

    def test_twentyfour_places(self):
        rules = (24, 20, 20, 19)
        self.assert_cuts(rules, (0, 19) * 12, True)
        self.assert_cuts(rules, (0, 19) * 12 + (0,), False)
        self.assert_cuts(rules, (0, 19) * 11 + (0,), False)
        self.assert_cuts(rules, (0, 19) * 11 + (0, 20), False)

    def test_all_small_ones_and_around(self):
        for rules in [(1, 2, 1, 1), (1, 4, 1, 2), (2, 4, 1, 2), (3, 4, 1, 1), (3, 4, 2, 3)]:
            right = all_cuts(rules)
            for length in range(rules[0] + 2):
                for thing in itertools.product(range(-1, rules[1] + 2), repeat=length):
                    self.assertIs(is_cuts(rules, thing), thing in right, (rules, thing))

    def test_a_number_more_or_less(self):
        for thing in [(), (0,), (0, 0), (0, 0, 0, 0), ((0, 0, 0),)]:
            self.assert_cuts(RULES, thing, False)

    def test_wrong_kinds_within(self):
        for wrong in [True, False, None, 1.0, 0.0, "1", b"1", [1], (1,), object()]:
            for place in range(3):
                thing = [1, 1, 1]
                thing[place] = wrong
                self.assert_cuts(RULES, tuple(thing), False)

    def test_other_things(self):
        for thing in NO_TEXTS + [[0, 0, 0], "000", "0-0-0", {0: 0, 1: 0, 2: 0}, {0, 1, 2}, range(3), b"\0\0\0"]:
            self.assert_cuts(RULES, thing, False)

    def test_what_is_handed_in_stays_as_it_was(self):
        for thing in [[0, 0, 0], (0, 0, [0]), {0: [0]}]:
            before = copy.deepcopy(thing)
            is_cuts(RULES, thing)
            self.assertEqual(thing, before)


class Reading(unittest.TestCase):
    def assert_refused(self, rules, thing):
        with self.subTest(f"{rules} {thing!r}"):
            with self.assertRaises(NoCuts) as taken:
                read_cuts(rules, thing)
            self.assertEqual(type(taken.exception), NoCuts)

    def test_it_reads_a_tuple_of_whole_numbers(self):
        one = read_cuts(RULES, "0-3-5")
        self.assertEqual(one, (0, 3, 5))
        self.assertEqual([type(one)] + [type(cut) for cut in one], [tuple, int, int, int])

    def test_shown(self):
        self.assertEqual(shown_cuts((0, 3, 5)), "0-3-5")
        self.assertEqual(shown_cuts((7,)), "7")
        self.assertEqual(shown_cuts((10, 19, 0)), "10-19-0")

    def test_what_is_shown_is_read(self):
        for rules in SMALL_RULES:
            for one in all_cuts(rules):
                self.assertEqual(read_cuts(rules, shown_cuts(one)), one)
        one = (0, 19) * 12
        self.assertEqual(read_cuts((24, 20, 1, 19), shown_cuts(one)), one)

    def test_no_written_numbers_are_refused(self):
        for place in range(3):
            for wrong in NO_NUMBERS:
                words = ["1", "1", "1"]
                words[place] = wrong
                self.assert_refused(RULES, "-".join(words))
        for wrong in NO_NUMBERS:
            self.assert_refused((1, 6, 2, 3), wrong)

    # Rules somewhat beyond their bounds are not refused: so it shows where written numbers end.
    def test_three_figures_are_the_most(self):
        wide = (2, 1200, 2, 1199)
        self.assertEqual(read_cuts(wide, "999-0"), (999, 0))
        self.assertEqual(read_cuts(wide, "100-10"), (100, 10))
        for text in ["1000-0", "0-1000", "0999-0", "007-0", "0-00", "0-000"]:
            self.assert_refused(wide, text)

    def test_no_cuts_by_the_rules_are_refused(self):
        for text in ["0-0-6", "6-6-6", "0-4-4", "4-0-0", "5-5-1", "0-0-999"]:
            self.assert_refused(RULES, text)

    def test_a_number_more_or_less_is_refused(self):
        for text in ["", "0", "0-0", "0-0-0-0", "0-0-", "-0-0", "-0-0-0", "0-0-0-", "0--0", "0--0-0", "-", "--"]:
            self.assert_refused(RULES, text)

    def test_other_partings_are_refused(self):
        for text in ["0 3 5", "0,3,5", "035", "0 - 3 - 5", "0-3-5\n", "\n0-3-5", " 0-3-5", "0-3-5 ", "0-3\n-5",
                     "0\u20133\u20135", "0\u22123\u22125", "(0, 3, 5)", "0_3_5"]:
            self.assert_refused(RULES, text)

    def test_what_is_no_text_is_refused(self):
        for thing in NO_TEXTS + [(0, 3, 5), [0, 3, 5], ["0-3-5"], b"0-3-5", ("0", "3", "5")]:
            self.assert_refused(RULES, thing)
            self.assert_refused((1, 6, 2, 3), thing)

    def test_what_is_refused_stays_as_it_was(self):
        thing = ["0", "3", "5"]
        self.assert_refused(RULES, thing)
        self.assertEqual(thing, ["0", "3", "5"])


class Order(unittest.TestCase):
    def test_the_first_are_all_naught(self):
        for places in range(1, 25):
            self.assertEqual(first_cuts((places, 20, 3, 7)), (0,) * places)

    def test_next_walks_all_cuts_in_order(self):
        for rules in SMALL_RULES:
            with self.subTest(rules):
                walked = []
                one = first_cuts(rules)
                while one is not None:
                    walked.append(one)
                    one = next_cuts(rules, one)
                self.assertEqual(walked, all_cuts(rules))

    def test_next_skips_what_the_step_forbids(self):
        self.assertEqual(next_cuts(RULES, (0, 3, 5)), (1, 0, 0))
        self.assertEqual(next_cuts(RULES, (3, 5, 5)), (4, 1, 0))
        self.assertEqual(next_cuts(RULES, (4, 1, 4)), (4, 2, 0))
        self.assertEqual(next_cuts((4, 20, 1, 1), (17, 18, 19, 19)), (18, 17, 16, 15))

    def test_behind_the_last_there_is_none(self):
        for rules in SMALL_RULES + [(24, 20, 20, 19), (24, 2, 1, 1), (24, 20, 1, 1), (1, 20, 1, 1)]:
            self.assertIsNone(next_cuts(rules, (rules[1] - 1,) * rules[0]))

    def test_just_ahead_of_the_last(self):
        self.assertEqual(next_cuts((24, 20, 1, 1), (19,) * 23 + (18,)), (19,) * 24)
        self.assertEqual(next_cuts((1, 2, 1, 1), (0,)), (1,))

    def test_what_comes_next_is_a_tuple_of_whole_numbers(self):
        for one in [first_cuts(RULES), next_cuts(RULES, (0, 0, 0)), next_cuts(RULES, (0, 3, 5))]:
            self.assertEqual([type(one)] + [type(cut) for cut in one], [tuple, int, int, int])


class Filing(unittest.TestCase):
    def assert_files(self, one, other, answer):
        with self.subTest(f"{one} {other}"):
            self.assertIs(can_file(one, other), answer)

    def test_on_to_themselves(self):
        for one in [(0,), (3,), (0, 3, 5), (19,) * 24]:
            self.assert_files(one, one, True)

    def test_deeper_places(self):
        self.assert_files((0, 3, 5), (0, 3, 6), True)
        self.assert_files((0, 3, 5), (1, 4, 6), True)
        self.assert_files((0, 0, 0), (19, 0, 19), True)

    def test_one_place_less(self):
        for other in [(0, 3, 4), (0, 2, 5), (9, 9, 4), (9, 2, 9)]:
            self.assert_files((0, 3, 5), other, False)
        self.assert_files((1, 3, 5), (0, 9, 9), False)
        self.assert_files((1,), (0,), False)

    def test_all_small_ones(self):
        every = all_cuts((3, 4, 1, 3))
        for one in every:
            for other in every:
                told = one[0] <= other[0] and one[1] <= other[1] and one[2] <= other[2]
                self.assertIs(can_file(one, other), told, (one, other))


if __name__ == "__main__":
    unittest.main()
