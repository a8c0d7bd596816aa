import itertools
import unittest

from tests.things import (Asker, all_barrels, all_houses, all_plans, first_free_at, fits, house_of, owners, walked_anew,
                          walked_loss, word_of)
from wardsmith.houses import House, read_house
from wardsmith.losing import cut_anew, loss_of
from wardsmith.plans import barrels_of

RULES = (3, 6, 3, 5)

TEXT = """rules 3 6 2 5
door front
door cellar
door attic
door shed
wing below = cellar
wing all = attic below front
key anna opens all
key bert opens below front
key carl opens cellar"""

PLAN = {"anna": (0, 1, 2), "bert": (0, 3, 2), "carl": (4, 3, 2)}

# Rules, doors and keys of which all houses and all right plans are walked.
SMALL = [((1, 3, 3, 2), 2, 3), ((2, 2, 2, 1), 2, 3), ((2, 3, 2, 1), 2, 2), ((2, 3, 2, 2), 1, 3), ((3, 2, 1, 1), 3, 2)]


def right_plans():
    for rules, doors, keys in SMALL:
        for house in all_houses(rules, doors, keys):
            for plan in all_plans(house):
                if word_of(house, plan)[0] == "good":
                    yield house, plan


def some_keys(house):
    names = [name for name, _ in house.grants]
    return [list(lost) for many in range(len(names) + 1) for lost in itertools.permutations(names, many)]


class Pinned(Asker):
    def assert_pinned(self, barrels, house, plan, names):
        self.assert_told(("pinned", barrels), loss_of, house, plan, names)

    def test_one_key(self):
        house = read_house(TEXT)
        self.assert_pinned({"cellar": ((0,), (1, 3), (2,))}, house, PLAN, ["carl"])
        self.assert_pinned({"front": ((0,), (1,), (2,)), "cellar": ((0, 4), (1, 3), (2,))}, house,
                           PLAN | {"bert": (0, 4, 2), "carl": (4, 3, 2)}, ["bert"])

    def test_several_keys(self):
        house = read_house(TEXT)
        self.assert_pinned({"front": ((0,), (1,), (2,)), "cellar": ((0,), (1,), (2,))}, house, PLAN, ["bert", "carl"])

    def test_the_names_in_another_order(self):
        house = read_house(TEXT)
        for names in itertools.permutations(["carl", "bert"]):
            self.assert_pinned({"front": ((0,), (1,), (2,)), "cellar": ((0,), (1,), (2,))}, house, PLAN, list(names))

    def test_all_keys(self):
        for names in itertools.permutations(PLAN):
            self.assert_pinned({"front": None, "cellar": None, "attic": None}, read_house(TEXT), PLAN, list(names))

    def test_no_key(self):
        self.assert_pinned({}, read_house(TEXT), PLAN, [])
        self.assert_pinned({}, house_of(RULES, "a"), {}, [])

    def test_a_door_whose_holders_are_all_lost_is_bolted(self):
        house = house_of(RULES, "a b c", k="a b", l="a", m="c")
        plan = {"k": (0, 0, 0), "l": (0, 0, 1), "m": (1, 1, 1)}
        self.assert_pinned({"a": ((0,), (0,), (1,)), "b": None}, house, plan, ["k"])
        self.assert_pinned({"a": None, "b": None}, house, plan, ["l", "k"])
        self.assert_pinned({"c": None}, house, plan, ["m"])

    def test_the_doors_in_the_order_of_the_house(self):
        house = house_of(RULES, "z a m", k="m a z", l="z")
        self.assert_pinned({"z": ((1,), (1,), (1,)), "a": None, "m": None}, house, {"k": (0, 0, 0), "l": (1, 1, 1)},
                           ["k"])

    def test_a_bolted_door_stays_so_untold(self):
        self.assert_pinned({"b": None}, house_of(RULES, "a b", k="b"), {"k": (0, 0, 0)}, ["k"])

    def test_doors_of_wings(self):
        house = House(RULES, ["a", "b"], [("v", ["b"]), ("w", ["v"])], [("k", ["w"]), ("l", ["a", "w"])])
        self.assert_pinned({"b": ((1,), (1,), (1,))}, house, {"k": (0, 0, 0), "l": (1, 1, 1)}, ["k"])

    def test_a_plan_told_in_another_order(self):
        for names in itertools.permutations(PLAN):
            self.assert_pinned({"cellar": ((0,), (1, 3), (2,))}, read_house(TEXT), {name: PLAN[name] for name in names},
                               ["carl"])


class Stray(Asker):
    def assert_stray(self, stray, house, plan, names):
        self.assert_told(("stray",) + stray, loss_of, house, plan, names)

    def test_holders_that_are_cut_alike(self):
        house = house_of(RULES, "a", k="a", l="a", m="a")
        plan = {"k": (0, 1, 0), "l": (0, 1, 0), "m": (0, 1, 0)}
        self.assert_stray(("a", "l", ["k", "k", "k"]), house, plan, ["l"])
        self.assert_stray(("a", "k", ["l", "l", "l"]), house, plan, ["k"])
        self.assert_stray(("a", "k", ["m", "m", "m"]), house, plan, ["l", "k"])

    def test_the_cross_goes_over_several_holders(self):
        house = house_of(RULES, "a", z="a", k="a", l="a")
        self.assert_stray(("a", "l", ["z", "k", "z"]), house, {"z": (0, 0, 0), "k": (1, 1, 1), "l": (0, 1, 0)}, ["l"])

    def test_the_cross_names_no_lost_key(self):
        house = house_of(RULES, "a", k="a", l="a", m="a", n="a")
        plan = {"k": (0, 0, 0), "l": (0, 0, 0), "m": (0, 0, 1), "n": (0, 0, 0)}
        self.assert_stray(("a", "k", ["m", "m", "n"]), house, plan, ["l", "k"])
        self.assert_stray(("a", "l", ["k", "k", "k"]), house, plan, ["l"])

    def test_the_first_holder_is_the_first_of_the_house(self):
        house = house_of(RULES, "a", z="a", y="a", m="a", x="a")
        plan = {"x": (1, 0, 0), "y": (1, 1, 0), "z": (0, 1, 1), "m": (1, 1, 0)}
        self.assert_stray(("a", "m", ["y", "z", "y"]), house, plan, ["m"])

    def test_two_such_doors(self):
        house = house_of(RULES, "b a", k="a b", l="a b")
        self.assert_stray(("b", "k", ["l"] * 3), house, {"k": (0, 0, 0), "l": (0, 0, 0)}, ["k"])
        # At the first door behind, the lost key is stopped; the key that opens the second one comes first in the house.
        house = house_of(RULES, "c b a", k="a b", l="a b", m="c")
        self.assert_stray(("b", "k", ["l"] * 3), house, {"k": (0, 0, 0), "l": (0, 0, 0), "m": (1, 1, 1)}, ["m", "k"])

    def test_the_door_counts_ahead_of_the_key(self):
        house = house_of(RULES, "b a", k="a", l="a", m="b", n="b")
        plan = {"k": (0, 0, 0), "l": (0, 0, 0), "m": (1, 1, 1), "n": (1, 1, 1)}
        for names in itertools.permutations(["k", "m"]):
            self.assert_stray(("b", "m", ["n"] * 3), house, plan, list(names))

    def test_two_such_keys(self):
        house = house_of(RULES, "a", z="a", y="a", k="a")
        plan = {"z": (0, 0, 0), "y": (0, 0, 0), "k": (0, 0, 0)}
        for names in itertools.permutations(["y", "z"]):
            self.assert_stray(("a", "z", ["k"] * 3), house, plan, list(names))
        # The first lost key is stopped.
        for names in itertools.permutations(["y", "z"]):
            self.assert_stray(("a", "y", ["k"] * 3), house, plan | {"z": (1, 0, 0)}, list(names))

    def test_a_door_that_the_key_opened_and_a_door_that_it_did_not(self):
        house = house_of(RULES, "a b", k="b", l="b", m="a")
        plan = {"k": (0, 0, 0), "l": (0, 0, 0), "m": (1, 1, 1)}
        self.assert_stray(("b", "l", ["k"] * 3), house, plan, ["l"])
        self.assert_told(("pinned", {"a": None}), loss_of, house, plan, ["m"])


class AllSmallLosses(Asker):
    def test_as_the_document_tells(self):
        words = []
        for house, plan in right_plans():
            for names in some_keys(house):
                told = loss_of(house, plan, names)
                self.assertEqual(repr(told), repr(walked_loss(house, plan, names)))
                words.append(told[0])
        self.assertGreater(words.count("stray"), 1000)
        self.assertGreater(words.count("pinned"), 1000)

    def test_behind_it_no_lost_key_opens_and_each_other_key_opens_what_it_opened(self):
        for house, plan in right_plans():
            for names in some_keys(house):
                told = loss_of(house, plan, names)
                if told[0] == "pinned":
                    self.assert_kept_out(house, plan, names, told[1])

    def assert_kept_out(self, house, plan, names, pinned):
        behind = barrels_of(house, plan) | pinned
        for door in house.doors:
            self.assertEqual(door in pinned, any(name in owners(house, door) for name in names))
            opened = [name for name in plan if behind[door] is not None and fits(behind[door], plan[name])]
            self.assertEqual(opened, [name for name in owners(house, door) if name not in names])

    def test_where_a_stray_is_told_no_barrel_would_do(self):
        barrels = {rules: all_barrels(rules) for rules, _, _ in SMALL}
        for house, plan in right_plans():
            for names in some_keys(house):
                told = loss_of(house, plan, names)
                if told[0] == "stray":
                    kept = [name for name in owners(house, told[1]) if name not in names]
                    self.assertIn(told[2], names)
                    self.assertEqual([name for name in told[3] if name not in kept], [])
                    self.assertEqual([plan[name][place] for place, name in enumerate(told[3])], list(plan[told[2]]))
                    self.assertFalse(any(all(fits(barrel, plan[name]) for name in kept)
                                         and not fits(barrel, plan[told[2]]) for barrel in barrels[house.rules]))


class Anew(Asker):
    def assert_anew(self, told, house, plan, name, *most):
        self.assert_told(told, cut_anew, house, plan, name, *most)

    def test_ordinary(self):
        house = house_of((2, 3, 2, 2), "a b", k="a", l="b")
        self.assert_anew(("cuts", (0, 1)), house, {"k": (0, 0), "l": (0, 2)}, "k")
        self.assert_anew(("cuts", (0, 0)), house, {"k": (0, 1), "l": (0, 2)}, "k")
        self.assert_anew(("cuts", (0, 0)), house, {"k": (0, 1), "l": (0, 2)}, "l")
        self.assert_anew(("cuts", (0, 2)), house, {"k": (0, 0), "l": (0, 1)}, "l")

    def test_its_own_cuts_come_first(self):
        house = house_of((1, 2, 1, 1), "a", k="a")
        self.assert_anew(("cuts", (1,)), house, {"k": (0,)}, "k")
        self.assert_anew(("cuts", (1,)), house, {"k": (0,)}, "k", 2)
        self.assert_anew(("more", None), house, {"k": (0,)}, "k", 1)

    def test_its_own_cuts_are_the_only_ones(self):
        # With its own cuts alone the plan is right.
        house = house_of((1, 2, 1, 1), "a b", k="a", l="b")
        self.assert_anew(("none", None), house, {"k": (0,), "l": (1,)}, "k")
        self.assert_anew(("none", None), house, {"k": (0,), "l": (1,)}, "l")

    def test_cuts_that_open_another_door_are_passed_over(self):
        house = house_of((2, 3, 2, 2), "a b", k="a", l="b", m="b")
        plan = {"k": (2, 2), "l": (0, 0), "m": (1, 1)}
        self.assert_anew(("cuts", (0, 2)), house, plan, "k")

    def test_cuts_by_which_another_key_opens_its_door_are_passed_over(self):
        # With 0-0 or 0-2 the key l opens the door a.
        house = house_of((2, 3, 2, 2), "a b", k="a", m="a", l="b")
        self.assert_anew(("cuts", (1, 0)), house, {"k": (2, 2), "m": (1, 1), "l": (0, 1)}, "k")

    def test_cuts_by_which_the_lost_ones_open_are_passed_over(self):
        # Behind 0-0 the barrel of a would open at 0-1, too.
        house = house_of((2, 2, 2, 1), "a", k="a", l="a")
        self.assert_anew(("cuts", (1, 0)), house, {"k": (0, 1), "l": (1, 1)}, "k")
        house = house_of((2, 3, 2, 2), "a", k="a", l="a")
        self.assert_anew(("cuts", (1, 0)), house, {"k": (0, 1), "l": (2, 1)}, "k")

    def test_cuts_that_are_too_high_are_passed_over(self):
        house = house_of((1, 3, 1, 2), "a", k="a", l="a")
        self.assert_anew(("none", None), house, {"k": (1,), "l": (1,)}, "k")
        house = house_of((2, 4, 2, 3), "a", k="a", l="a", m="a")
        plan = {"k": (3, 3), "l": (1, 1), "m": (2, 1)}
        self.assert_anew(("cuts", (1, 0)), house, plan | {"k": (2, 3)}, "k")

    def test_cuts_by_the_step(self):
        house = house_of((2, 4, 1, 1), "a b", k="a", l="b")
        self.assert_anew(("cuts", (1, 0)), house, {"k": (0, 1), "l": (0, 0)}, "k")
        self.assert_anew(("cuts", (1, 0)), house, {"k": (0, 0), "l": (0, 1)}, "l", 3)
        self.assert_anew(("more", None), house, {"k": (0, 0), "l": (0, 1)}, "l", 2)

    def test_whatever_the_keys_are_called(self):
        for name in list("abcdefghijklmnopqrstuvwxyz") + ["lost", "none", "anew", "abcdefghijkl"]:
            house = house_of((1, 4, 2, 3), "front cellar", **{name: "front", "other": "cellar"})
            plan = {name: (0,), "other": (1,)}
            self.assert_anew(("cuts", (2,)), house, plan, name)
            self.assert_anew(("cuts", (2,)), house, plan, "other")

    def test_doors_of_wings(self):
        house = House((1, 4, 2, 3), ["a", "b"], [("v", ["b"]), ("w", ["v"])], [("k", ["w"]), ("l", ["a", "w"])])
        self.assert_anew(("cuts", (2,)), house, {"k": (0,), "l": (1,)}, "k")

    def test_a_plan_told_in_another_order(self):
        house = house_of((2, 3, 2, 2), "a b", k="a", l="b", m="b")
        plan = {"k": (2, 2), "l": (0, 0), "m": (1, 1)}
        for names in itertools.permutations(plan):
            self.assert_anew(("cuts", (0, 2)), house, {name: plan[name] for name in names}, "k")


class AnewWithMost(Asker):
    # The first cuts that open no other door are the fourth ones.
    HOUSE = house_of((1, 6, 2, 5), "a b", k="a", l="b", m="b")
    PLAN = {"k": (0,), "l": (1,), "m": (2,)}

    def assert_anew(self, told, *most):
        self.assert_told(told, cut_anew, self.HOUSE, self.PLAN, "k", *most)

    def test_none(self):
        self.assert_anew(("more", None), 0)
        self.assert_told(("more", None), cut_anew, house_of((1, 2, 1, 1), "a", k="a"), {"k": (1,)}, "k", 0)

    def test_one(self):
        self.assert_anew(("more", None), 1)
        self.assert_told(("cuts", (0,)), cut_anew, house_of((1, 2, 1, 1), "a", k="a"), {"k": (1,)}, "k", 1)

    def test_as_many_as_are_needed_and_one_less(self):
        self.assert_anew(("more", None), 3)
        self.assert_anew(("cuts", (3,)), 4)
        self.assert_anew(("cuts", (3,)), 5)
        self.assert_anew(("cuts", (3,)), 2000)

    def test_left_out_and_by_its_name(self):
        self.assert_anew(("cuts", (3,)))
        self.assertEqual(cut_anew(self.HOUSE, self.PLAN, "k", most=3), ("more", None))
        self.assertEqual(cut_anew(house=self.HOUSE, plan=self.PLAN, name="k", most=4), ("cuts", (3,)))

    def test_left_out_it_is_200(self):
        for needed in [199, 200, 201]:
            house, plan, one = first_free_at(needed)
            self.assert_told(("more", None) if needed > 200 else ("cuts", one), cut_anew, house, plan, "k")
            self.assert_told(("cuts", one), cut_anew, house, plan, "k", needed)
            self.assert_told(("more", None), cut_anew, house, plan, "k", needed - 1)

    def test_2000(self):
        for needed in [1999, 2000, 2001]:
            house, plan, one = first_free_at(needed)
            self.assertEqual(cut_anew(house, plan, "k", 2000), ("more", None) if needed > 2000 else ("cuts", one))

    def test_all_cuts_looked_at_in_vain(self):
        house = house_of((1, 3, 1, 2), "a", k="a", l="a")
        plan = {"k": (1,), "l": (1,)}
        for most, word in [(0, "more"), (1, "more"), (2, "more"), (3, "none"), (4, "none"), (2000, "none")]:
            self.assert_told((word, None), cut_anew, house, plan, "k", most)
        self.assert_told(("none", None), cut_anew, house, plan, "k")


class AllSmallAnew(Asker):
    def test_as_the_document_tells(self):
        words = []
        for house, plan in right_plans():
            for name in plan:
                told = cut_anew(house, plan, name)
                self.assertEqual(told, walked_anew(house, plan, name, 200))
                words.append(told[0])
        self.assertGreater(words.count("cuts"), 1000)
        self.assertGreater(words.count("none"), 1000)

    def test_each_most(self):
        for house in all_houses((2, 3, 2, 1), 2, 2):
            for plan in all_plans(house):
                if word_of(house, plan)[0] == "good":
                    for most in range(9):
                        self.assertEqual(cut_anew(house, plan, "t", most), walked_anew(house, plan, "t", most))


if __name__ == "__main__":
    unittest.main()
