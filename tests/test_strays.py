import itertools
import unittest

from tests.things import Asker, all_cuts, all_houses, all_plans, fits, house_of, word_of
from wardsmith.errors import NoSuch
from wardsmith.houses import House
from wardsmith.plans import barrels_of
from wardsmith.strays import stray_at, strays_of

RULES = (2, 4, 2, 2)

# The barrel of door a opens at its holders' cuts, and at 2-1; 0-3 are no cuts, by the step.
HOUSE = house_of(RULES, "a b c", k="a", l="a", m="b")
PLAN = {"k": (0, 1), "l": (2, 3), "m": (3, 3)}

WIDE = (24, 20, 20, 19)

NO_NUMBERS = [True, False, None, "", "0", "1", 0.0, 1.5, [], [0], (), (0,), {}, {0: 0}, {0}, b"0", object(), int, len]


def walked(house, plan, door):
    barrel = barrels_of(house, plan)[door]
    if barrel is None:
        return []
    return [one for one in all_cuts(house.rules) if fits(barrel, one)
            and one not in [plan[name] for name, opened in house.grants if door in opened]]


class Number(Asker):
    def test_ordinary(self):
        self.assert_told(1, strays_of, HOUSE, PLAN, "a")
        house = house_of((3, 6, 2, 5), "a b", k="a", l="a", m="b")
        self.assert_told(6, strays_of, house, {"k": (0, 1, 2), "l": (3, 4, 5), "m": (0, 0, 0)}, "a")

    def test_a_door_whose_strays_are_none(self):
        self.assert_told(0, strays_of, HOUSE, PLAN, "b")
        self.assert_told(0, strays_of, HOUSE, PLAN | {"k": (2, 1)}, "a")
        house = house_of((2, 2, 2, 1), "a", k="a", l="a", m="a", n="a")
        plan = dict(zip("klmn", itertools.product([0, 1], repeat=2)))
        self.assert_told(0, strays_of, house, plan, "a")

    def test_a_bolted_door(self):
        self.assert_told(0, strays_of, HOUSE, PLAN, "c")
        self.assert_told(0, strays_of, house_of(RULES, "a"), {}, "a")

    def test_holders_that_are_cut_alike_take_away_one(self):
        house = house_of((2, 3, 2, 2), "a", k="a", l="a", m="a", n="a")
        plan = {"k": (0, 0), "l": (1, 1), "m": (0, 0), "n": (1, 1)}
        self.assert_told(2, strays_of, house, plan, "a")
        self.assert_told(0, strays_of, house, dict.fromkeys("klmn", (1, 2)), "a")
        self.assert_told(1, strays_of, house, plan | {"n": (0, 1)}, "a")

    def test_a_key_that_is_no_holder_takes_away_none(self):
        self.assert_told(1, strays_of, HOUSE, PLAN | {"m": (2, 1)}, "a")

    def test_holders_of_wings(self):
        house = House(RULES, ["a", "b"], [("v", ["a"]), ("w", ["v"])], [("k", ["w"]), ("l", ["a", "b"])])
        self.assert_told(1, strays_of, house, {"k": (0, 1), "l": (2, 3)}, "a")
        self.assert_told(0, strays_of, house, {"k": (0, 1), "l": (2, 3)}, "b")

    def test_a_plan_told_in_another_order(self):
        for names in itertools.permutations(PLAN):
            self.assert_told(1, strays_of, HOUSE, {name: PLAN[name] for name in names}, "a")

    def test_all_small_plans(self):
        for rules, doors, keys in [((1, 3, 2, 2), 2, 3), ((2, 2, 2, 1), 2, 3), ((2, 3, 2, 1), 2, 2),
                                   ((3, 2, 2, 1), 1, 3)]:
            for house in all_houses(rules, doors, keys):
                for plan in all_plans(house):
                    if word_of(house, plan)[0] != "steep":
                        for door in house.doors:
                            self.assert_walked(house, plan, door)

    def assert_walked(self, house, plan, door):
        strays = walked(house, plan, door)
        self.assertEqual(strays_of(house, plan, door), len(strays))
        self.assertEqual([stray_at(house, plan, door, n) for n in range(len(strays))], strays)
        with self.assertRaises(NoSuch):
            stray_at(house, plan, door, len(strays))


class Each(Asker):
    def assert_none_such(self, house, plan, door, *n):
        self.assert_refused(NoSuch, {}, stray_at, house, plan, door, *n)

    def test_in_order(self):
        house = house_of((2, 4, 3, 3), "a b", k="a", l="a", m="a", n="b")
        plan = {"k": (3, 0), "l": (0, 3), "m": (2, 2), "n": (1, 1)}
        strays = [(0, 0), (0, 2), (2, 0), (2, 3), (3, 2), (3, 3)]
        self.assert_told(6, strays_of, house, plan, "a")
        for n, one in enumerate(strays):
            self.assert_told(one, stray_at, house, plan, "a", n)

    def test_the_edges_of_n(self):
        self.assert_told((2, 1), stray_at, HOUSE, PLAN, "a")
        self.assert_told((2, 1), stray_at, HOUSE, PLAN, "a", 0)
        for n in [1, 2, 3, -1, -2, 10 ** 59, -10 ** 59]:
            self.assert_none_such(HOUSE, PLAN, "a", n)

    def test_n_by_its_name_and_left_out(self):
        house = house_of((2, 3, 2, 2), "a", k="a", l="a")
        plan = {"k": (0, 0), "l": (1, 1)}
        self.assertEqual(stray_at(house, plan, "a"), (0, 1))
        self.assertEqual(stray_at(house, plan, "a", n=1), (1, 0))
        self.assertEqual(stray_at(house=house, plan=plan, door="a", n=0), (0, 1))

    def test_strays_that_lie_ahead_between_and_behind(self):
        house = house_of((3, 2, 2, 1), "a", k="a", l="a", m="a")
        for taken in itertools.combinations(all_cuts(house.rules), 3):
            for given in itertools.permutations(taken):
                plan = dict(zip("klm", given))
                strays = walked(house, plan, "a")
                self.assertEqual([stray_at(house, plan, "a", n) for n in range(len(strays))], strays)

    def test_where_there_are_none(self):
        for door in ["b", "c"]:
            self.assert_none_such(HOUSE, PLAN, door)
            for n in [0, 1, -1]:
                self.assert_none_such(HOUSE, PLAN, door, n)
        self.assert_none_such(house_of(RULES, "a"), {}, "a")

    def test_what_is_no_whole_number(self):
        for n in NO_NUMBERS:
            for door in ["a", "b", "c"]:
                with self.assertRaises(NoSuch):
                    stray_at(HOUSE, PLAN, door, n)

    def test_where_two_strays_are_there_no_truth_is_a_number(self):
        house = house_of((2, 3, 2, 2), "a", k="a", l="a")
        self.assert_none_such(house, {"k": (0, 0), "l": (1, 1)}, "a", True)
        self.assert_none_such(house, {"k": (0, 0), "l": (1, 1)}, "a", False)

    def test_holders_that_are_cut_alike(self):
        house = house_of((2, 3, 2, 2), "a", k="a", l="a", m="a", n="a")
        plan = {"k": (1, 1), "l": (0, 0), "m": (0, 0), "n": (1, 1)}
        self.assert_told((0, 1), stray_at, house, plan, "a", 0)
        self.assert_told((1, 0), stray_at, house, plan, "a", 1)
        self.assert_none_such(house, plan, "a", 2)


class WideRules(Asker):
    def setUp(self):
        self.house = house_of(WIDE, "a b", **{letter: "a" for letter in "cdefghijklmnopqrstuv"})
        names = [name for name, _ in self.house.grants]
        self.plan = {name: (number,) * 24 for number, name in enumerate(names)}

    def test_the_number_is_exact(self):
        self.assert_told(20 ** 24 - 20, strays_of, self.house, self.plan, "a")

    def test_each_is_exact(self):
        # Read as numbers of 24 digits, the holders' cuts come at each (20 ** 24 - 1) // 19.
        gap = (20 ** 24 - 1) // 19
        last = 20 ** 24 - 21
        for n in [0, 1, gap - 2, gap - 1, gap, 2 * gap - 3, 2 * gap - 2, 19 * gap - 20, 10 ** 30, last - 1, last]:
            number = n
            for holder in range(20):
                number += number >= holder * gap
            digits = [number // 20 ** power % 20 for power in range(23, -1, -1)]
            self.assertEqual(stray_at(self.house, self.plan, "a", n), tuple(digits))
        self.assertEqual(stray_at(self.house, self.plan, "a"), (0,) * 23 + (1,))
        self.assertEqual(stray_at(self.house, self.plan, "a", last), (19,) * 23 + (18,))
        self.assert_refused(NoSuch, {}, stray_at, self.house, self.plan, "a", last + 1)

    def test_a_narrow_step(self):
        # Cuts by a step of 1 over all depths, told here by their last cut.
        house = house_of((24, 20, 20, 1), "a", **{letter: "a" for letter in "cdefghijklmnopqrstuv"})
        ways = [1] * 20
        for _ in range(23):
            ways = [sum(ways[max(0, depth - 1):depth + 2]) for depth in range(20)]
        self.assertEqual(strays_of(house, self.plan, "a"), sum(ways) - 20)
        self.assertEqual(stray_at(house, self.plan, "a", sum(ways) - 21), (19,) * 23 + (18,))
        self.assertEqual(stray_at(house, self.plan, "a", 0), (0,) * 23 + (1,))


if __name__ == "__main__":
    unittest.main()
