import itertools
import unittest

from tests.things import Asker, all_barrels, all_houses, all_plans, fits, house_of, owners, word_of
from wardsmith.barrels import cross_of, least_of, opens_at
from wardsmith.errors import Steep
from wardsmith.houses import House, read_house
from wardsmith.plans import barrels_of, fault_of

RULES = (3, 6, 2, 5)

TEXT = """rules 3 6 2 5
door front
door cellar
door attic
door shed
wing below = cellar
wing all = attic below front
key anna opens all
key bert opens below front
key carl opens cellar"""

PLAN = {"anna": (0, 1, 2), "bert": (0, 3, 2), "carl": (4, 3, 2)}

# Rules, doors and keys of which all houses and all plans are walked.
SMALL = [((1, 2, 1, 1), 3, 2), ((1, 3, 2, 1), 2, 3), ((2, 2, 1, 1), 2, 3), ((2, 2, 2, 1), 2, 3), ((2, 3, 2, 1), 2, 2)]


def small_plans():
    for rules, doors, keys in SMALL:
        for house in all_houses(rules, doors, keys):
            for plan in all_plans(house):
                yield house, plan


class Barrels(Asker):
    def test_ordinary(self):
        barrels = {"front": ((0,), (1, 3), (2,)), "cellar": ((0, 4), (1, 3), (2,)), "attic": ((0,), (1,), (2,)),
                   "shed": None}
        self.assert_told(barrels, barrels_of, read_house(TEXT), PLAN)

    def test_a_plan_told_in_another_order(self):
        house = read_house(TEXT)
        for names in itertools.permutations(PLAN):
            plan = {name: PLAN[name] for name in names}
            self.assert_told(barrels_of(house, PLAN), barrels_of, house, plan)

    def test_doors_in_the_order_of_the_house(self):
        house = house_of(RULES, "z a m", k="m z", l="a")
        plan = {"k": (1, 1, 1), "l": (2, 2, 2)}
        self.assert_told({"z": ((1,),) * 3, "a": ((2,),) * 3, "m": ((1,),) * 3}, barrels_of, house, plan)

    def test_a_door_without_a_holder_is_bolted(self):
        self.assert_told({"a": None, "b": ((0,),) * 3, "c": None}, barrels_of, house_of(RULES, "a b c", k="b"),
                         {"k": (0, 0, 0)})
        self.assert_told({"a": None}, barrels_of, house_of(RULES, "a"), {})

    def test_holders_that_are_cut_alike(self):
        house = house_of((2, 3, 1, 2), "a", k="a", l="a", m="a")
        self.assert_told({"a": ((2,), (1,))}, barrels_of, house, {"k": (2, 1), "l": (2, 1), "m": (2, 1)})

    def test_as_many_heights_as_the_rules_allow(self):
        house = house_of((2, 4, 3, 3), "a", k="a", l="a", m="a", n="a")
        plan = {"k": (3, 0), "l": (1, 0), "m": (0, 2), "n": (3, 1)}
        self.assert_told({"a": ((0, 1, 3), (0, 1, 2))}, barrels_of, house, plan)

    def test_each_is_the_least_one_of_the_holders_cuts(self):
        for house, plan in small_plans():
            if word_of(house, plan)[0] != "steep":
                barrels = barrels_of(house, plan)
                self.assertEqual(list(barrels), house.doors)
                for door in house.doors:
                    some = [plan[name] for name in owners(house, door)]
                    self.assertEqual(barrels[door], least_of(house.rules, some) if some else None)


class TooSteep(Asker):
    def assert_steep(self, door, place, house, plan):
        self.assert_refused(Steep, {"door": door, "place": place}, barrels_of, house, plan)

    def test_one_door_at_one_place(self):
        house = house_of(RULES, "a b", k="a b", l="b", m="b")
        self.assert_steep("b", 1, house, {"k": (0, 0, 0), "l": (0, 1, 0), "m": (1, 2, 1)})
        self.assert_steep("b", 0, house, {"k": (0, 0, 0), "l": (1, 1, 0), "m": (2, 1, 1)})
        self.assert_steep("b", 2, house, {"k": (0, 0, 0), "l": (1, 1, 1), "m": (1, 1, 2)})

    def test_two_places(self):
        house = house_of(RULES, "a b", k="a b", l="b", m="b")
        self.assert_steep("b", 1, house, {"k": (0, 0, 0), "l": (0, 1, 1), "m": (0, 2, 2)})
        self.assert_steep("b", 0, house, {"k": (0, 0, 0), "l": (1, 1, 1), "m": (2, 1, 2)})

    def test_two_doors(self):
        plan = {"k": (0, 0, 0), "l": (1, 0, 1), "m": (2, 0, 0), "n": (0, 0, 2)}
        # The first door is told, though the other one has a lesser name, and is too high at an earlier place.
        self.assert_steep("b", 2, house_of(RULES, "b a", k="a b", l="a b", m="a", n="b"), plan)
        self.assert_steep("a", 0, house_of(RULES, "a b", k="a b", l="a b", m="a", n="b"), plan)
        self.assert_steep("b", 2, house_of(RULES, "c d b a", k="a b c", l="a b", m="a d", n="b"), plan)

    def test_a_plan_told_in_another_order(self):
        house = house_of(RULES, "b a", k="a b", l="a b", m="a", n="b")
        plan = {"n": (2, 0, 0), "m": (0, 2, 0), "l": (1, 1, 0), "k": (0, 0, 0)}
        self.assert_steep("b", 0, house, plan)

    def test_one_height(self):
        house = house_of((1, 2, 1, 1), "a", k="a", l="a")
        self.assert_steep("a", 0, house, {"k": (0,), "l": (1,)})

    def test_all_small_plans(self):
        steep = 0
        for house, plan in small_plans():
            word, why = word_of(house, plan)
            if word == "steep":
                steep += 1
                with self.assertRaises(Steep) as taken:
                    barrels_of(house, plan)
                self.assertEqual((taken.exception.door, taken.exception.place), why)
            else:
                barrels_of(house, plan)
        self.assertGreater(steep, 100)


class Fault(Asker):
    def test_none(self):
        house = read_house(TEXT)
        self.assert_told(None, fault_of, house, {"anna": (0, 0, 0), "bert": (0, 1, 1), "carl": (0, 2, 0)} | PLAN)
        self.assert_told(None, fault_of, house_of(RULES, "a b", k="a", l="b"), {"k": (0, 0, 0), "l": (0, 0, 1)})

    def test_a_key_that_opens_a_door_unasked(self):
        house = house_of(RULES, "a b", k="a", l="b")
        self.assert_told(("a", "l", ["k", "k", "k"]), fault_of, house, {"k": (0, 1, 0), "l": (0, 1, 0)})
        house = house_of(RULES, "a b", k="a b", l="b")
        self.assert_told(("a", "l", ["k", "k", "k"]), fault_of, house, {"k": (0, 1, 0), "l": (0, 1, 0)})

    def test_the_cross_goes_over_several_holders(self):
        house = house_of(RULES, "a b", k="a", l="a", m="b")
        plan = {"k": (0, 1, 2), "l": (3, 4, 5), "m": (3, 1, 5)}
        self.assert_told(("a", "m", ["l", "k", "l"]), fault_of, house, plan)
        house = house_of((4, 4, 3, 3), "a b", x="b", n="a", k="a", m="a")
        plan = {"k": (0, 0, 0, 1), "m": (1, 1, 2, 2), "n": (3, 3, 3, 0), "x": (3, 1, 0, 2)}
        self.assert_told(("a", "x", ["n", "m", "k", "m"]), fault_of, house, plan)

    def test_the_first_holder_is_the_first_of_the_house(self):
        # By name, and by the plan's order, others come first.
        house = house_of(RULES, "a b", z="a", y="a", m="b", x="a")
        plan = {"x": (1, 0, 0), "y": (1, 1, 0), "z": (0, 1, 1), "m": (1, 1, 0)}
        self.assert_told(("a", "m", ["y", "z", "y"]), fault_of, house, plan)

    def test_two_doors(self):
        house = house_of(RULES, "b a", k="a", l="b")
        self.assert_told(("b", "k", ["l", "l", "l"]), fault_of, house, {"k": (1, 1, 1), "l": (1, 1, 1)})
        house = house_of(RULES, "c b a", k="a", l="b", m="c")
        # At door b the key k comes, at door a only later ones: the door counts first.
        self.assert_told(("b", "k", ["l", "l", "l"]), fault_of, house,
                         {"k": (1, 1, 1), "l": (1, 1, 1), "m": (0, 0, 0)})

    def test_two_keys(self):
        house = house_of(RULES, "a b", z="b", y="b", k="a")
        plan = {"k": (1, 2, 3), "y": (1, 2, 3), "z": (1, 2, 3)}
        self.assert_told(("a", "z", ["k", "k", "k"]), fault_of, house, plan)
        plan = {"k": (1, 2, 3), "y": (1, 2, 3), "z": (1, 2, 2)}
        self.assert_told(("a", "y", ["k", "k", "k"]), fault_of, house, plan)

    def test_two_doors_and_two_keys(self):
        house = house_of(RULES, "b a", k="b", l="b", m="a", n="a")
        plan = {"k": (0, 0, 0), "l": (1, 1, 1), "m": (2, 0, 0), "n": (1, 0, 1)}
        self.assert_told(("b", "n", ["l", "k", "l"]), fault_of, house, plan)
        plan = {"k": (0, 0, 0), "l": (1, 1, 0), "m": (0, 1, 0), "n": (1, 0, 0)}
        self.assert_told(("b", "m", ["k", "l", "k"]), fault_of, house, plan)

    def test_a_plan_told_in_another_order(self):
        house = house_of(RULES, "a b", k="a", l="a", m="b", n="b")
        plan = {"k": (0, 0, 0), "l": (0, 0, 1), "m": (0, 0, 0), "n": (0, 0, 1)}
        for names in itertools.permutations(plan):
            self.assert_told(("a", "m", ["k", "k", "k"]), fault_of, house, {name: plan[name] for name in names})

    def test_a_bolted_door_is_opened_by_none(self):
        self.assert_told(None, fault_of, house_of(RULES, "a b c", k="b"), {"k": (0, 0, 0)})
        self.assert_told(None, fault_of, house_of(RULES, "a"), {})
        house = house_of(RULES, "a b c", k="b", l="c")
        self.assert_told(("b", "l", ["k", "k", "k"]), fault_of, house, {"k": (0, 0, 0), "l": (0, 0, 0)})

    def test_holders_that_are_cut_alike(self):
        house = house_of(RULES, "a", k="a", l="a")
        self.assert_told(None, fault_of, house, {"k": (0, 0, 0), "l": (0, 0, 0)})
        house = house_of(RULES, "a b", l="a", k="a", m="b")
        plan = {"k": (0, 1, 0), "l": (0, 1, 0), "m": (0, 1, 0)}
        self.assert_told(("a", "m", ["l", "l", "l"]), fault_of, house, plan)

    def test_holders_of_wings(self):
        house = House(RULES, ["a", "b", "c"], [("v", ["b"]), ("w", ["a", "v"])], [("k", ["w"]), ("l", ["c"])])
        self.assert_told(None, fault_of, house, {"k": (0, 0, 0), "l": (0, 0, 1)})
        self.assert_told(("a", "l", ["k", "k", "k"]), fault_of, house, {"k": (0, 0, 0), "l": (0, 0, 0)})

    def test_all_small_plans(self):
        for house, plan in small_plans():
            word, why = word_of(house, plan)
            if word != "steep":
                self.assertEqual(fault_of(house, plan), why)

    def test_a_fault_is_a_cross_of_the_holders_cuts(self):
        for house, plan in small_plans():
            if word_of(house, plan)[0] == "open":
                door, key, cross = fault_of(house, plan)
                names = owners(house, door)
                self.assertNotIn(key, names)
                self.assertTrue(opens_at(barrels_of(house, plan)[door], plan[key]))
                numbers = cross_of([plan[name] for name in names], plan[key])
                self.assertEqual(cross, [names[number] for number in numbers])

    def test_a_plan_is_right_just_where_some_barrels_make_it_so(self):
        barrels = {rules: all_barrels(rules) for rules, _, _ in SMALL}
        for house, plan in small_plans():
            right = word_of(house, plan)[0] != "steep" and fault_of(house, plan) is None
            self.assertEqual(right, all(self.can_be_pinned(house, plan, door, barrels) for door in house.doors))

    def can_be_pinned(self, house, plan, door, barrels):
        names = owners(house, door)
        if not names:
            return True
        return any(all(fits(barrel, plan[name]) == (name in names) for name in plan) for barrel in barrels[house.rules])


if __name__ == "__main__":
    unittest.main()
