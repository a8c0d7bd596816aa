import itertools
import unittest

from tests.things import NO_TEXTS, all_barrels, all_cuts, fits
from wardsmith.counts import ahead_of, count_of, filed_count, nth_of
from wardsmith.cuts import is_cuts, next_cuts
from wardsmith.errors import NoSuch

RULES = (3, 6, 2, 3)
BARREL = ((0, 3), (1,), (2, 5))
# (0, 1, 5) and (3, 1, 5) are none by the step.
OPENING = [(0, 1, 2), (3, 1, 2)]

NEVER = (2, 6, 1, 4)
NEVER_BARREL = ((0,), (5,))

SMALL_RULES = [(1, 2, 1, 1), (1, 5, 2, 1), (1, 4, 4, 3), (2, 2, 2, 1), (2, 3, 2, 1), (2, 3, 3, 2), (2, 4, 2, 1),
               (2, 4, 2, 2), (3, 2, 2, 1), (3, 3, 2, 1), (3, 3, 3, 2)]

# Barrels of more places, where the step bites at some places and not at others.
LONG_BARRELS = [((5, 6, 2, 2), ((0, 3), (1, 5), (2, 3), (0, 5), (1, 4))),
                ((6, 4, 3, 1), ((0, 1, 3), (1, 2), (0, 2, 3), (1,), (0, 1, 2), (2, 3))),
                ((6, 3, 3, 1), ((0, 1, 2),) * 6),
                ((4, 6, 6, 3), ((0, 1, 2, 3, 4, 5), (0, 5), (1, 2, 4), (0, 2, 3, 4, 5)))]

FULL = (tuple(range(20)),) * 24
GREATEST = (24, 20, 20, 19)


def opening(rules, barrel):
    return [one for one in all_cuts(rules) if fits(barrel, one)]


# Where neighbours are at most one apart: counted from the first place on, place by place.
def zigzags(places, depths):
    ending = [1] * depths
    for _ in range(places - 1):
        ending = [sum(ending[max(0, depth - 1):depth + 2]) for depth in range(depths)]
    return sum(ending)


class Count(unittest.TestCase):
    def test_ordinary(self):
        self.assertEqual(count_of(RULES, BARREL), 2)
        self.assertEqual(count_of((3, 6, 2, 5), BARREL), 4)
        self.assertEqual(count_of(RULES, ((0,), (3,), (5,))), 1)

    def test_a_barrel_that_opens_at_no_cuts_by_the_step(self):
        self.assertEqual(count_of(NEVER, NEVER_BARREL), 0)
        self.assertEqual(count_of((2, 6, 1, 5), NEVER_BARREL), 1)
        self.assertEqual(count_of((3, 6, 2, 1), ((0, 1), (3, 4), (3, 4))), 0)
        self.assertEqual(count_of((3, 6, 2, 1), ((3, 4), (3, 4), (0, 1))), 0)

    def test_one_place(self):
        for many in range(1, 7):
            self.assertEqual(count_of((1, 6, 6, 1), (tuple(range(many)),)), many)

    def test_all_small_ones(self):
        for rules in SMALL_RULES:
            for barrel in all_barrels(rules):
                self.assertEqual(count_of(rules, barrel), len(opening(rules, barrel)), (rules, barrel))

    def test_longer_ones(self):
        for rules, barrel in LONG_BARRELS:
            self.assertEqual(count_of(rules, barrel), len(opening(rules, barrel)), (rules, barrel))

    def test_the_greatest_rules_are_counted_exactly(self):
        self.assertEqual(count_of(GREATEST, FULL), 20 ** 24)
        self.assertEqual(count_of((24, 20, 20, 1), FULL), zigzags(24, 20))
        self.assertEqual(count_of((24, 20, 20, 19), ((3, 7, 11),) * 24), 3 ** 24)
        self.assertEqual(count_of((24, 20, 1, 19), ((0,), (19,)) * 12), 1)
        self.assertEqual(count_of((24, 20, 1, 18), ((0,), (19,)) * 12), 0)
        # Of all twenty depths side by side, only 0 with 19 are farther apart than 18.
        self.assertEqual(count_of((2, 20, 20, 18), FULL[:2]), 398)


class Ahead(unittest.TestCase):
    def test_ordinary(self):
        self.assertEqual(ahead_of(RULES, BARREL, (0, 1, 2)), 0)
        self.assertEqual(ahead_of(RULES, BARREL, (3, 1, 2)), 1)

    def test_the_barrel_does_not_open_there(self):
        # Ahead of all, between, behind all; leaving the barrel at each of the places.
        for one, many in [((0, 0, 0), 0), ((0, 1, 1), 0), ((0, 1, 3), 1), ((0, 2, 0), 1), ((1, 1, 2), 1), ((2, 5, 5), 1),
                          ((3, 0, 0), 1), ((3, 1, 1), 1), ((3, 1, 3), 2), ((3, 2, 0), 2), ((4, 1, 2), 2), ((5, 5, 5), 2)]:
            with self.subTest(one):
                self.assertEqual(ahead_of(RULES, BARREL, one), many)

    def test_a_barrel_that_opens_at_none(self):
        for one in all_cuts(NEVER):
            self.assertEqual(ahead_of(NEVER, NEVER_BARREL, one), 0)

    def test_all_small_ones(self):
        for rules in SMALL_RULES:
            every = all_cuts(rules)
            for barrel in all_barrels(rules):
                right = [one for one in every if fits(barrel, one)]
                for one in every:
                    told = len([other for other in right if other < one])
                    self.assertEqual(ahead_of(rules, barrel, one), told, (rules, barrel, one))

    def test_longer_ones(self):
        for rules, barrel in LONG_BARRELS:
            right = opening(rules, barrel)
            for one in all_cuts(rules):
                self.assertEqual(ahead_of(rules, barrel, one), len([other for other in right if other < one]))

    def test_the_greatest_rules(self):
        self.assertEqual(ahead_of(GREATEST, FULL, (0,) * 24), 0)
        self.assertEqual(ahead_of(GREATEST, FULL, (19,) * 24), 20 ** 24 - 1)
        self.assertEqual(ahead_of(GREATEST, FULL, (7,) + (0,) * 23), 7 * 20 ** 23)
        self.assertEqual(ahead_of((24, 20, 20, 1), FULL, (19,) * 24), zigzags(24, 20) - 1)


class Nth(unittest.TestCase):
    def assert_refused(self, rules, barrel, n):
        with self.subTest(f"{rules} {barrel} {n!r}"):
            with self.assertRaises(NoSuch) as taken:
                nth_of(rules, barrel, n)
            self.assertEqual(type(taken.exception), NoSuch)

    def test_ordinary(self):
        self.assertEqual([nth_of(RULES, BARREL, n) for n in range(2)], OPENING)
        one = nth_of(RULES, BARREL, 1)
        self.assertEqual([type(one)] + [type(cut) for cut in one], [tuple, int, int, int])

    def test_left_out_it_is_the_first(self):
        self.assertEqual(nth_of(RULES, BARREL), (0, 1, 2))
        self.assertEqual(nth_of((1, 6, 2, 1), ((4, 5),)), (4,))
        self.assertEqual(nth_of(rules=RULES, barrel=BARREL, n=1), (3, 1, 2))

    def test_the_count_and_beyond_are_refused(self):
        for n in [2, 3, 100, 10 ** 59]:
            self.assert_refused(RULES, BARREL, n)

    def test_below_naught_is_refused(self):
        for n in [-1, -2, -3, -(10 ** 59)]:
            self.assert_refused(RULES, BARREL, n)

    def test_where_the_count_is_naught(self):
        for n in [0, 1, -1]:
            self.assert_refused(NEVER, NEVER_BARREL, n)
        with self.assertRaises(NoSuch):
            nth_of(NEVER, NEVER_BARREL)

    def test_what_is_no_whole_number_is_refused(self):
        for n in [thing for thing in NO_TEXTS if type(thing) is not int] + [0.0, 1.0, "0", "1", "", "n", [0], (0,)]:
            self.assert_refused(RULES, BARREL, n)
            self.assert_refused(NEVER, NEVER_BARREL, n)

    def test_what_is_refused_stays_as_it_was(self):
        thing = [0, [1]]
        self.assert_refused(RULES, BARREL, thing)
        self.assertEqual(thing, [0, [1]])

    def test_all_small_ones(self):
        for rules in SMALL_RULES:
            for barrel in all_barrels(rules):
                right = opening(rules, barrel)
                self.assertEqual([nth_of(rules, barrel, n) for n in range(len(right))], right, (rules, barrel))
                for n in [-1, len(right)]:
                    self.assertRaises(NoSuch, nth_of, rules, barrel, n)

    def test_longer_ones(self):
        for rules, barrel in LONG_BARRELS:
            right = opening(rules, barrel)
            self.assertEqual([nth_of(rules, barrel, n) for n in range(len(right))], right)

    def test_the_greatest_rules(self):
        self.assertEqual(nth_of(GREATEST, FULL, 20 ** 24 - 1), (19,) * 24)
        self.assertEqual(nth_of(GREATEST, FULL, 20 ** 23), (1,) + (0,) * 23)
        self.assertEqual(nth_of(GREATEST, FULL, 20 ** 23 - 1), (0,) + (19,) * 23)
        self.assert_refused(GREATEST, FULL, 20 ** 24)

    def test_the_numbers_lead_back(self):
        many = zigzags(24, 20)
        rules = (24, 20, 20, 1)
        for n in [0, 1, many // 7, many // 3, many // 2, 5 * many // 6, many - 2, many - 1]:
            one = nth_of(rules, FULL, n)
            self.assertTrue(is_cuts(rules, one))
            self.assertEqual(ahead_of(rules, FULL, one), n)
        # All cuts open the full barrel: the next number has the next cuts.
        for n in [0, many // 3, many // 2]:
            self.assertEqual(nth_of(rules, FULL, n + 1), next_cuts(rules, nth_of(rules, FULL, n)))


class Filed(unittest.TestCase):
    def test_ordinary(self):
        for one, many in [((0, 0, 0), 2), ((0, 1, 2), 2), ((1, 1, 2), 1), ((3, 1, 2), 1), ((3, 1, 3), 0), ((4, 1, 2), 0),
                          ((0, 2, 2), 0), ((0, 0, 3), 0), ((5, 5, 5), 0)]:
            with self.subTest(one):
                self.assertEqual(filed_count(RULES, BARREL, one), many)

    def test_themselves_count_too(self):
        self.assertEqual(filed_count((2, 6, 2, 3), ((1, 3), (2, 4)), (3, 4)), 1)
        self.assertEqual(filed_count((1, 6, 1, 1), ((5,),), (5,)), 1)

    def test_greater_ones_may_have_a_place_that_is_less(self):
        # (2, 0) is greater than (1, 1), but nothing is put back.
        self.assertEqual(filed_count((2, 3, 2, 2), ((2,), (0,)), (1, 1)), 0)
        self.assertEqual(filed_count((2, 3, 2, 2), ((2,), (0, 1)), (1, 1)), 1)

    def test_the_step_holds_for_those_filed_on_to(self):
        for one in all_cuts(NEVER):
            self.assertEqual(filed_count(NEVER, NEVER_BARREL, one), 0)

    def test_all_small_ones(self):
        for rules in SMALL_RULES:
            every = all_cuts(rules)
            for barrel in all_barrels(rules):
                right = [one for one in every if fits(barrel, one)]
                for one in every:
                    told = len([other for other in right if all(cut <= goal for cut, goal in zip(one, other))])
                    self.assertEqual(filed_count(rules, barrel, one), told, (rules, barrel, one))

    def test_the_greatest_rules(self):
        self.assertEqual(filed_count(GREATEST, FULL, (0,) * 24), 20 ** 24)
        self.assertEqual(filed_count(GREATEST, FULL, (10,) * 24), 10 ** 24)
        self.assertEqual(filed_count(GREATEST, FULL, (19,) * 24), 1)
        self.assertEqual(filed_count(GREATEST, FULL, (0, 19) * 12), 20 ** 12)
        self.assertEqual(filed_count((24, 20, 20, 1), FULL, (12,) * 24), zigzags(24, 8))


class Sums(unittest.TestCase):
    # Ahead of the cuts that come next lies one more, just where the barrel opens at the cuts.
    def test_ahead_grows_by_one_at_cuts_that_open(self):
        for rules, barrel in LONG_BARRELS:
            for one, other in itertools.pairwise(all_cuts(rules)):
                more = ahead_of(rules, barrel, other) - ahead_of(rules, barrel, one)
                self.assertEqual(more, 1 if fits(barrel, one) else 0)


if __name__ == "__main__":
    unittest.main()
