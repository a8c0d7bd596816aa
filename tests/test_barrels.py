import copy
import itertools
import unittest

from tests.things import NO_NUMBERS, NO_TEXTS, all_barrels, all_cuts, fits
from wardsmith.barrels import (cross_of, is_barrel, least_of, lies_within, opens_at, read_barrel, shown_barrel,
                               stopped_at)
from wardsmith.errors import NoBarrel, TooHigh

RULES = (3, 6, 2, 3)
BARREL = ((0, 3), (1,), (2, 5))
SMALL_RULES = [(1, 2, 1, 1), (1, 4, 2, 1), (1, 4, 4, 3), (2, 2, 2, 1), (2, 3, 1, 2), (2, 3, 2, 1), (2, 3, 3, 2),
               (3, 2, 1, 1), (3, 2, 2, 1), (3, 3, 2, 1)]


class IsBarrel(unittest.TestCase):
    def assert_barrel(self, rules, thing, answer):
        with self.subTest(f"{rules} {thing!r}"):
            self.assertIs(is_barrel(rules, thing), answer)

    def test_ordinary(self):
        for thing in [BARREL, ((0,), (0,), (0,)), ((5,), (4, 5), (0, 5))]:
            self.assert_barrel(RULES, thing, True)

    def test_pins_of_one_height_of_as_many_as_the_rules_and_one_more(self):
        for heights in range(1, 7):
            rules = (2, 6, heights, 3)
            self.assert_barrel(rules, ((4,), (0,)), True)
            self.assert_barrel(rules, (tuple(range(heights)), (0,)), True)
            self.assert_barrel(rules, ((0,), tuple(range(6 - heights, 6))), True)
            self.assert_barrel(rules, ((0,), tuple(range(heights + 1))), False)
            self.assert_barrel(rules, (tuple(range(heights + 1)), (0,)), False)

    def test_pins_without_heights(self):
        self.assert_barrel((1, 6, 2, 3), ((),), False)
        for place in range(3):
            self.assert_barrel(RULES, BARREL[:place] + ((),) + BARREL[place + 1:], False)

    def test_heights_at_the_edges_and_one_beyond(self):
        self.assert_barrel((1, 6, 2, 3), ((0,),), True)
        self.assert_barrel((1, 6, 2, 3), ((5,),), True)
        self.assert_barrel((1, 6, 2, 3), ((0, 5),), True)
        for pin in [(-1,), (6,), (-1, 0), (5, 6), (0, 6), (-1, 5), (10 ** 59,)]:
            self.assert_barrel((1, 6, 2, 3), (pin,), False)

    def test_heights_that_are_alike_or_fall(self):
        rules = (1, 6, 6, 3)
        for pin in [(0, 0), (5, 5), (1, 0), (5, 0), (0, 1, 1), (0, 0, 1), (0, 2, 1), (2, 0, 1), (1, 2, 1),
                    (5, 4, 3, 2, 1, 0), (0, 1, 2, 3, 5, 4)]:
            self.assert_barrel(rules, (pin,), False)
        for pin in [(0, 1), (0, 5), (0, 1, 2), (0, 1, 2, 3, 4, 5)]:
            self.assert_barrel(rules, (pin,), True)

    def test_pins_may_be_farther_apart_than_the_step(self):
        self.assert_barrel((2, 6, 1, 1), ((0,), (5,)), True)
        self.assert_barrel((2, 6, 2, 1), ((0, 5), (0, 5)), True)

    def test_a_pin_more_or_less(self):
        for thing in [(), BARREL[:1], BARREL[:2], BARREL + ((0,),), (BARREL,)]:
            self.assert_barrel(RULES, thing, False)

    def test_the_greatest_rules(self):
        rules = (24, 20, 20, 19)
        pin = tuple(range(20))
        self.assert_barrel(rules, (pin,) * 24, True)
        self.assert_barrel(rules, (pin,) * 25, False)
        self.assert_barrel(rules, (pin,) * 23, False)
        self.assert_barrel(rules, (pin,) * 23 + (pin + (20,),), False)
        self.assert_barrel((24, 20, 19, 19), (pin,) * 24, False)

    def test_all_small_ones_and_around(self):
        for rules in [(1, 3, 1, 1), (1, 3, 2, 1), (1, 3, 3, 2), (2, 2, 1, 1), (2, 2, 2, 1)]:
            right = all_barrels(rules)
            pins = [pin for many in range(4) for pin in itertools.product(range(-1, rules[1] + 1), repeat=many)]
            for places in range(3):
                for thing in itertools.product(pins, repeat=places):
                    self.assertIs(is_barrel(rules, thing), thing in right, (rules, thing))

    def test_wrong_kinds_of_pins(self):
        for wrong in [None, True, 0, 1, 2.5, "0", "0,1", "", b"\0", [0], [0, 1], {0: 0}, {0}, range(1), object()]:
            for place in range(3):
                self.assert_barrel(RULES, BARREL[:place] + (wrong,) + BARREL[place + 1:], False)

    def test_wrong_kinds_of_heights(self):
        for wrong in [True, False, None, 1.0, 0.0, "1", b"1", [1], (1,), object()]:
            for place in range(3):
                for pin in [(wrong,), (0, wrong), (wrong, 5)]:
                    self.assert_barrel(RULES, BARREL[:place] + (pin,) + BARREL[place + 1:], False)

    def test_other_things(self):
        for thing in NO_TEXTS + [list(BARREL), "0,3 1 2,5", "012", {0: (0,), 1: (0,), 2: (0,)}, {(0,), (1,), (2,)},
                                 range(3), b"\0\0\0", (0, 3, 1), [(0,), (0,), (0,)]]:
            self.assert_barrel(RULES, thing, False)

    def test_what_is_handed_in_stays_as_it_was(self):
        for thing in [[[3, 0], [1]], ([3, 0], [1], [2]), ((0,), (1,), [2, 0]), {0: [3, 0]}]:
            before = copy.deepcopy(thing)
            is_barrel(RULES, thing)
            self.assertEqual(thing, before)


class Reading(unittest.TestCase):
    def assert_refused(self, rules, thing):
        with self.subTest(f"{rules} {thing!r}"):
            with self.assertRaises(NoBarrel) as taken:
                read_barrel(rules, thing)
            self.assertEqual(type(taken.exception), NoBarrel)

    def test_it_reads_a_tuple_of_tuples(self):
        barrel = read_barrel(RULES, "0,3 1 2,5")
        self.assertEqual(barrel, BARREL)
        self.assertEqual([type(barrel)] + [type(pin) for pin in barrel], [tuple] * 4)
        self.assertEqual({type(height) for pin in barrel for height in pin}, {int})

    def test_shown(self):
        self.assertEqual(shown_barrel(BARREL), "0,3 1 2,5")
        self.assertEqual(shown_barrel(((7,),)), "7")
        self.assertEqual(shown_barrel(((0, 1, 2),)), "0,1,2")
        self.assertEqual(shown_barrel(((10,), (0, 19))), "10 0,19")

    def test_what_is_shown_is_read(self):
        for rules in SMALL_RULES:
            for barrel in all_barrels(rules):
                self.assertEqual(read_barrel(rules, shown_barrel(barrel)), barrel)
        barrel = (tuple(range(20)), (19,)) * 12
        self.assertEqual(read_barrel((24, 20, 20, 1), shown_barrel(barrel)), barrel)

    def test_no_written_numbers_are_refused(self):
        for wrong in set(NO_NUMBERS) - {"1,2"}:
            for text in [f"{wrong} 1 2", f"1 {wrong} 2", f"1 2 {wrong}", f"{wrong},5 1 2", f"1 0,{wrong} 2",
                         f"1 2 0,{wrong}", f"1 2 {wrong},5"]:
                self.assert_refused(RULES, text)
            self.assert_refused((1, 6, 2, 3), wrong)

    # Rules somewhat beyond their bounds are not refused: so it shows where written numbers end.
    def test_three_figures_are_the_most(self):
        wide = (2, 1200, 2, 1199)
        self.assertEqual(read_barrel(wide, "0,999 100"), ((0, 999), (100,)))
        for text in ["0,1000 0", "1000 0", "0 0,1000", "0 0999", "0 007", "0 00", "0 0,01"]:
            self.assert_refused(wide, text)

    def test_no_barrels_by_the_rules_are_refused(self):
        for text in ["6 1 2", "1 6 2", "1 2 6", "0,6 1 2", "1 2 0,999", "0,1,2 0 0", "0 0,1,2 0", "0 0 3,4,5", "0,0 1 2",
                     "1 2 3,3", "3,0 1 2", "1 5,4 2", "1 2 5,0"]:
            self.assert_refused(RULES, text)

    def test_a_pin_more_or_less_is_refused(self):
        for text in ["", "0", "0,1", "0 0", "0 0,1", "0 0 0 0", "0,1 0,1 0,1 0,1"]:
            self.assert_refused(RULES, text)
        for text in ["", "0 0", " "]:
            self.assert_refused((1, 6, 2, 3), text)

    def test_other_partings_are_refused(self):
        for text in [" ", "  ", "   ", "0,3  1 2,5", " 0,3 1 2,5", "0,3 1 2,5 ", "0,3 1 2,5\n", "\n0,3 1 2,5",
                     "0,3\t1\t2,5", "0,3\n1\n2,5", "0, 3 1 2,5", "0 ,3 1 2,5", "0 , 3 1 2,5", "0-3 1 2-5", "0,3-1-2,5",
                     "0;3 1 2;5", "0.3 1 2.5", "0,,3 1 2,5", ",0,3 1 2,5", "0,3, 1 2,5", "0,3 1, 2,5", "0,3 ,1 2,5",
                     "0,3 , 2,5", "0,3 1 ,", "0,3 1 2,5,", "((0, 3), (1,), (2, 5))", "0,3\u00a01\u00a02,5", "0,3,1,2,5",
                     "0,3/1/2,5", "0\uff0c3 1 2,5"]:
            self.assert_refused(RULES, text)

    def test_what_is_no_text_is_refused(self):
        for thing in NO_TEXTS + [BARREL, list(BARREL), ["0,3 1 2,5"], b"0,3 1 2,5", ("0,3", "1", "2,5")]:
            self.assert_refused(RULES, thing)
            self.assert_refused((1, 6, 2, 3), thing)

    def test_what_is_refused_stays_as_it_was(self):
        thing = ["0,3", "1", "2,5"]
        self.assert_refused(RULES, thing)
        self.assertEqual(thing, ["0,3", "1", "2,5"])


class Opening(unittest.TestCase):
    def assert_stopped(self, barrel, one, place):
        with self.subTest(f"{barrel} {one}"):
            self.assertEqual(stopped_at(barrel, one), place)
            self.assertIs(opens_at(barrel, one), place is None)

    def test_ordinary(self):
        self.assert_stopped(BARREL, (0, 1, 2), None)
        self.assert_stopped(BARREL, (3, 1, 5), None)
        self.assert_stopped(BARREL, (3, 1, 4), 2)
        self.assert_stopped(BARREL, (3, 2, 5), 1)
        self.assert_stopped(BARREL, (1, 1, 2), 0)

    def test_the_first_place_is_told(self):
        self.assert_stopped(BARREL, (1, 0, 0), 0)
        self.assert_stopped(BARREL, (1, 1, 1), 0)
        self.assert_stopped(BARREL, (1, 2, 2), 0)
        self.assert_stopped(BARREL, (0, 0, 0), 1)

    def test_between_two_heights_it_does_not_open(self):
        for cut in range(6):
            self.assert_stopped(((1, 4),), (cut,), None if cut in (1, 4) else 0)

    def test_the_last_of_twentyfour_places(self):
        self.assert_stopped(((0, 19),) * 24, (0, 19) * 12, None)
        self.assert_stopped(((0, 19),) * 24, (0, 19) * 11 + (0, 18), 23)

    def test_all_small_ones(self):
        for rules in SMALL_RULES:
            cuts = all_cuts(rules)
            for barrel in all_barrels(rules):
                for one in cuts:
                    wrong = [place for place in range(rules[0]) if one[place] not in barrel[place]]
                    told = stopped_at(barrel, one)
                    self.assertEqual(told, wrong[0] if wrong else None, (barrel, one))
                    self.assertIs(opens_at(barrel, one), not wrong, (barrel, one))


class Least(unittest.TestCase):
    def assert_too_high(self, rules, some, place):
        with self.subTest(f"{rules} {some}"):
            with self.assertRaises(TooHigh) as taken:
                least_of(rules, some)
            self.assertEqual(type(taken.exception), TooHigh)
            self.assertEqual(taken.exception.place, place)

    def test_of_one_cuts(self):
        self.assertEqual(least_of(RULES, [(0, 3, 5)]), ((0,), (3,), (5,)))
        self.assertEqual(least_of((1, 2, 1, 1), [(1,)]), ((1,),))
        self.assertEqual(least_of((24, 20, 1, 19), [(0, 19) * 12]), ((0,), (19,)) * 12)

    def test_of_cuts_that_are_alike(self):
        for heights in [1, 2, 6]:
            self.assertEqual(least_of((3, 6, heights, 3), [(0, 3, 5)] * 9), ((0,), (3,), (5,)))

    def test_heights_rise_whatever_the_order(self):
        some = [(5, 2, 0), (0, 2, 5), (3, 1, 1)]
        for order in itertools.permutations(some):
            self.assertEqual(least_of((3, 6, 3, 5), list(order)), ((0, 3, 5), (1, 2), (0, 1, 5)))
        # A set walks small numbers in their order by chance, but not these.
        for order in itertools.permutations([(0,), (8,), (16,)]):
            self.assertEqual(least_of((1, 20, 3, 1), list(order)), ((0, 8, 16),))

    def test_it_is_a_tuple_of_tuples_of_whole_numbers(self):
        barrel = least_of(RULES, [(0, 3, 5), (1, 3, 5)])
        self.assertEqual([type(barrel)] + [type(pin) for pin in barrel], [tuple] * 4)
        self.assertEqual({type(height) for pin in barrel for height in pin}, {int})

    def test_just_as_many_as_the_heights(self):
        self.assertEqual(least_of((1, 6, 3, 1), [(2,), (0,), (1,)]), ((0, 1, 2),))
        every = [(depth,) for depth in range(20)]
        self.assertEqual(least_of((1, 20, 20, 1), every), (tuple(range(20)),))
        self.assert_too_high((1, 20, 19, 1), every, 0)

    def test_one_more_is_too_high(self):
        self.assert_too_high((1, 6, 1, 1), [(0,), (1,)], 0)
        self.assert_too_high((1, 6, 3, 1), [(2,), (0,), (1,), (3,)], 0)

    def test_the_first_place_that_is_too_high(self):
        self.assert_too_high(RULES, [(0, 0, 0), (1, 1, 1), (2, 2, 2)], 0)
        self.assert_too_high(RULES, [(0, 0, 0), (1, 1, 1), (1, 2, 2)], 1)
        self.assert_too_high(RULES, [(0, 0, 0), (1, 1, 1), (1, 1, 2)], 2)
        self.assert_too_high(RULES, [(0, 0, 0), (1, 1, 0), (1, 2, 0)], 1)
        # More unlike depths come later, the first ones are found later.
        self.assert_too_high((3, 6, 2, 5), [(0, 0, 0), (0, 1, 1), (0, 1, 2), (0, 1, 3), (0, 2, 4)], 1)
        self.assert_too_high((24, 20, 1, 19), [(0,) * 24, (0,) * 23 + (1,)], 23)

    def test_all_small_ones(self):
        for rules in [(1, 3, 1, 1), (1, 4, 2, 3), (2, 2, 1, 1), (2, 3, 2, 1), (3, 2, 2, 1)]:
            for many in range(1, 4):
                for some in itertools.product(all_cuts(rules), repeat=many):
                    depths = [sorted({one[place] for one in some}) for place in range(rules[0])]
                    high = [place for place in range(rules[0]) if len(depths[place]) > rules[2]]
                    if high:
                        with self.assertRaises(TooHigh) as taken:
                            least_of(rules, list(some))
                        self.assertEqual(taken.exception.place, high[0])
                    else:
                        self.assertEqual(least_of(rules, list(some)), tuple(tuple(pin) for pin in depths))

    # A barrel opens at all cuts of a list just where their least barrel lies within it.
    def test_least_and_within(self):
        rules = (2, 3, 3, 2)
        cuts = all_cuts(rules)
        barrels = all_barrels(rules)
        for some in itertools.combinations(cuts, 2):
            least = least_of(rules, list(some))
            self.assertIs(is_barrel(rules, least), True)
            for barrel in barrels:
                self.assertIs(lies_within(least, barrel), all(opens_at(barrel, one) for one in some))

    def test_the_list_stays_as_it_was(self):
        some = [(5, 2, 0), (0, 2, 5), (5, 2, 0)]
        least_of((3, 6, 3, 5), some)
        self.assertEqual(some, [(5, 2, 0), (0, 2, 5), (5, 2, 0)])
        self.assert_too_high((3, 6, 1, 5), some, 0)
        self.assertEqual(some, [(5, 2, 0), (0, 2, 5), (5, 2, 0)])


class Within(unittest.TestCase):
    def assert_within(self, barrel, wider, answer):
        with self.subTest(f"{barrel} {wider}"):
            self.assertIs(lies_within(barrel, wider), answer)

    def test_within_itself(self):
        for barrel in [BARREL, ((0,),), (tuple(range(20)),) * 24]:
            self.assert_within(barrel, barrel, True)

    def test_a_height_more_or_less(self):
        for place in range(3):
            more = BARREL[:place] + (BARREL[place] + (9,),) + BARREL[place + 1:]
            self.assert_within(BARREL, more, True)
            self.assert_within(more, BARREL, False)

    def test_as_many_heights_but_others(self):
        for place in range(3):
            other = BARREL[:place] + (tuple(height + 6 for height in BARREL[place]),) + BARREL[place + 1:]
            self.assert_within(BARREL, other, False)
            self.assert_within(other, BARREL, False)

    def test_the_same_heights_at_other_places(self):
        self.assert_within(((0,), (1,)), ((1,), (0,)), False)
        self.assert_within(((0,), (1,)), ((0, 1), (0, 1)), True)

    def test_between_the_heights_is_not_among_them(self):
        self.assert_within(((2,),), ((1, 3),), False)

    def test_all_small_ones(self):
        for rules in [(1, 4, 4, 1), (2, 3, 3, 1)]:
            barrels = all_barrels(rules)
            for barrel, wider in itertools.product(barrels, repeat=2):
                told = all(set(pin) <= set(other) for pin, other in zip(barrel, wider))
                self.assertIs(lies_within(barrel, wider), told, (barrel, wider))


class Cross(unittest.TestCase):
    def assert_cross(self, some, one, cross):
        with self.subTest(f"{some} {one}"):
            told = cross_of(some, one)
            self.assertEqual(told, cross)
            self.assertIs(type(told), type(cross))

    def test_ordinary(self):
        some = [(0, 3, 5), (1, 3, 4), (2, 2, 2)]
        self.assert_cross(some, (1, 2, 5), [1, 2, 0])
        self.assert_cross(some, (2, 3, 4), [2, 0, 1])

    def test_the_first_that_are_cut_alike(self):
        self.assert_cross([(0, 1), (0, 2), (0, 2)], (0, 2), [0, 1])
        self.assert_cross([(1, 1), (0, 2), (0, 2)], (0, 2), [1, 1])
        self.assert_cross([(1, 2), (0, 1), (0, 2)], (0, 2), [1, 0])

    def test_of_a_list_of_one(self):
        self.assert_cross([(0, 3, 5)], (0, 3, 5), [0, 0, 0])
        self.assert_cross([(0, 3, 5)], (0, 3, 4), None)

    def test_of_cuts_that_are_alike(self):
        self.assert_cross([(0, 3, 5)] * 4, (0, 3, 5), [0, 0, 0])
        self.assert_cross([(0, 3, 5)] * 4, (1, 3, 5), None)

    def test_a_place_without(self):
        some = [(0, 3, 5), (1, 3, 4), (2, 2, 2)]
        for one in [(3, 3, 5), (0, 1, 5), (0, 3, 3), (5, 5, 3)]:
            self.assert_cross(some, one, None)
        self.assert_cross([(0,) * 24], (0,) * 23 + (1,), None)

    def test_of_sixty(self):
        some = [(number // 20, number % 20) for number in range(60)]
        self.assert_cross(some, (2, 19), [40, 19])
        self.assert_cross(some, (3, 19), None)

    # The least barrel of a list opens at cuts just where they have a cross.
    def test_all_small_ones(self):
        for rules in [(1, 3, 3, 2), (2, 3, 3, 1), (3, 2, 2, 1)]:
            cuts = all_cuts(rules)
            for some in itertools.product(cuts, repeat=2):
                least = least_of(rules, list(some))
                for one in cuts:
                    cross = cross_of(list(some), one)
                    self.assertIs(cross is not None, opens_at(least, one), (some, one))
                    self.assertIs(fits(least, one), opens_at(least, one))
                    if cross is not None:
                        self.assertEqual(cross, [[other[place] for other in some].index(one[place])
                                                 for place in range(rules[0])])

    def test_it_is_the_askers_own(self):
        some = [(0, 3, 5), (1, 3, 4)]
        told = cross_of(some, (1, 3, 5))
        told.append(7)
        told[0] = 9
        self.assertEqual(cross_of(some, (1, 3, 5)), [1, 0, 0])
        self.assertEqual(some, [(0, 3, 5), (1, 3, 4)])


if __name__ == "__main__":
    unittest.main()
