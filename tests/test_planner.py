import itertools
import unittest

from tests.things import Asker, all_cuts, all_houses, all_plans, house_of, spoil, word_of
from wardsmith.houses import House, read_house
from wardsmith.planner import plan_for, trial_of
from wardsmith.plans import barrels_of, fault_of

RULES = (2, 3, 2, 2)

TEXT = """rules 2 3 2 1
door front
door cellar
door shed
wing below = cellar
wing all = below front
key anna opens all
key bert opens below
key carl opens front"""

# The last one finds the plan.
TRIALS = [
    (1, (0, 0), "good", None),
    (2, (0, 0), "open", ("front", "bert", ["anna", "anna"])),
    (2, (0, 1), "good", None),
    (3, (0, 0), "open", ("cellar", "carl", ["anna", "anna"])),
    (3, (0, 1), "open", ("front", "bert", ["anna", "carl"])),
    (3, (1, 0), "good", None),
]
PLAN = {"anna": (0, 0), "bert": (0, 1), "carl": (1, 0)}

# Rules, doors and keys of which all houses are walked.
SMALL = [((1, 2, 1, 1), 2, 2), ((1, 2, 2, 1), 2, 3), ((1, 3, 2, 1), 2, 3), ((1, 3, 1, 2), 2, 3), ((2, 2, 1, 1), 2, 3),
         ((2, 2, 2, 1), 2, 3), ((2, 3, 2, 1), 2, 2)]


def small_houses():
    for rules, doors, keys in SMALL:
        yield from all_houses(rules, doors, keys)


# All that the document tells to be tried, to the end.
def walked(house):
    names = [name for name, _ in house.grants]
    trials = []

    def go(plan):
        if len(plan) == len(names):
            return plan
        for one in all_cuts(house.rules):
            longer = plan | {names[len(plan)]: one}
            word, why = word_of(house, longer)
            trials.append((len(longer), one, word, why))
            found = go(longer) if word == "good" else None
            if found is not None:
                return found
        return None

    plan = go({})
    return ("none" if plan is None else "plan", plan, trials)


def house_without_a_plan():
    # Three keys apart, but at one place of two depths only two of them can be cut unlike.
    return house_of((1, 2, 1, 1), "a b c", k="a", l="b", m="c")


class Trial(Asker):
    def test_good(self):
        house = house_of(RULES, "a b", k="a", l="b")
        self.assert_told(("good", None), trial_of, house, {"k": (0, 0), "l": (0, 1)})
        self.assert_told(("good", None), trial_of, house, {"k": (0, 0)})

    def test_of_no_key(self):
        self.assert_told(("good", None), trial_of, house_of(RULES, "a b", k="a", l="b"), {})
        self.assert_told(("good", None), trial_of, house_of(RULES, "a"), {})

    def test_steep(self):
        house = house_of(RULES, "b a", k="a b", l="a b", m="a b", n="a")
        plan = {"k": (0, 0), "l": (1, 1), "m": (0, 2)}
        self.assert_told(("good", None), trial_of, house, {"k": (0, 0), "l": (1, 1)})
        self.assert_told(("steep", ("b", 1)), trial_of, house, plan)
        self.assert_told(("steep", ("b", 0)), trial_of, house, plan | {"m": (2, 2)})
        self.assert_told(("steep", ("a", 0)), trial_of, house, plan | {"m": (0, 0), "n": (2, 2)})

    def test_open(self):
        house = house_of(RULES, "b a", k="a", l="b", m="b")
        self.assert_told(("open", ("b", "k", ["l", "l"])), trial_of, house, {"k": (1, 1), "l": (1, 1)})
        self.assert_told(("open", ("b", "k", ["m", "l"])), trial_of, house, {"k": (1, 1), "l": (0, 1), "m": (1, 2)})

    def test_steep_is_told_ahead_of_open(self):
        house = house_of(RULES, "a b", k="a", l="b", m="b", n="b")
        plan = {"k": (0, 0), "l": (0, 0), "m": (1, 1), "n": (2, 1)}
        self.assert_told(("steep", ("b", 0)), trial_of, house, plan)
        self.assert_told(("open", ("a", "l", ["k", "k"])), trial_of, house, plan | {"n": (0, 1)})

    def test_a_door_none_of_whose_holders_has_cuts_opens_at_nothing(self):
        house = house_of(RULES, "b a", k="a", l="b")
        self.assert_told(("good", None), trial_of, house, {"k": (0, 0)})

    def test_keys_without_cuts_are_no_holders_yet(self):
        house = house_of(RULES, "a b", k="b", l="a", m="a")
        plan = {"k": (0, 1), "l": (0, 0)}
        self.assert_told(("good", None), trial_of, house, plan)
        self.assert_told(("open", ("a", "k", ["l", "m"])), trial_of, house, plan | {"m": (1, 1)})

    def test_a_plan_told_in_another_order(self):
        house = house_of(RULES, "a b", k="b", l="b", m="a", n="a")
        plan = {"k": (0, 0), "l": (0, 1), "m": (0, 0), "n": (0, 1)}
        for names in itertools.permutations(plan):
            told = ("open", ("a", "k", ["m", "m"]))
            self.assert_told(told, trial_of, house, {name: plan[name] for name in names})

    def test_holders_of_wings(self):
        house = read_house(TEXT)
        self.assert_told(("good", None), trial_of, house, PLAN)
        self.assert_told(("open", ("front", "bert", ["anna", "anna"])), trial_of, house,
                         {"anna": (0, 0), "bert": (0, 0)})

    def test_of_all_keys_as_plans_tell(self):
        for house in small_houses():
            for plan in all_plans(house):
                word, why = trial_of(house, plan)
                self.assertEqual((word, why), word_of(house, plan))
                if word != "steep":
                    self.assertEqual(why, fault_of(house, plan))

    def test_of_some_of_the_first_keys(self):
        for house in small_houses():
            names = [name for name, _ in house.grants]
            for many in range(len(names)):
                for given in itertools.product(all_cuts(house.rules), repeat=many):
                    plan = dict(zip(names, given))
                    self.assertEqual(trial_of(house, plan), word_of(house, plan))

    def test_no_right_plan_has_the_cuts_of_a_trial_that_is_not_good(self):
        for house in small_houses():
            names = [name for name, _ in house.grants]
            right = [plan for plan in all_plans(house) if word_of(house, plan) == ("good", None)]
            for plan in right:
                for many in range(len(names) + 1):
                    self.assertEqual(trial_of(house, {name: plan[name] for name in names[:many]}), ("good", None))


class Planner(Asker):
    def test_ordinary(self):
        self.assert_told(("plan", PLAN, TRIALS), plan_for, read_house(TEXT))

    def test_one_key(self):
        house = house_of(RULES, "a b", k="b")
        self.assert_told(("plan", {"k": (0, 0)}, [(1, (0, 0), "good", None)]), plan_for, house)

    def test_two_keys_apart(self):
        house = house_of(RULES, "a b", k="b", l="a")
        trials = [(1, (0, 0), "good", None), (2, (0, 0), "open", ("a", "k", ["l", "l"])), (2, (0, 1), "good", None)]
        self.assert_told(("plan", {"k": (0, 0), "l": (0, 1)}, trials), plan_for, house)

    def test_steep_trials(self):
        house = house_of((1, 3, 1, 2), "a b", k="a", l="a b", m="b")
        told = plan_for(house)
        self.assertIn((2, (1,), "steep", ("a", 0)), told[2])
        self.assertEqual(told, walked(house))

    def test_a_house_without_keys(self):
        house = house_of(RULES, "a b")
        for handed in [(), (0,), (1,), (200,), (2000,)]:
            self.assert_told(("plan", {}, []), plan_for, house, *handed)

    def test_a_house_of_which_there_is_no_plan(self):
        open_to = [("a", "l", ["k"]), ("a", "m", ["k"]), ("b", "m", ["l"]), ("a", "l", ["k"]), ("a", "m", ["k"])]
        trials = [(1, (0,), "good", None),
                  (2, (0,), "open", open_to[0]),
                  (2, (1,), "good", None),
                  (3, (0,), "open", open_to[1]),
                  (3, (1,), "open", open_to[2]),
                  (1, (1,), "good", None),
                  (2, (0,), "good", None),
                  (3, (0,), "open", open_to[2]),
                  (3, (1,), "open", open_to[4]),
                  (2, (1,), "open", open_to[3])]
        self.assert_told(("none", None, trials), plan_for, house_without_a_plan())

    def test_keys_are_left_without_over_several_at_once(self):
        # Of k and l either cuts go; only the last key has none left, both times.
        house = house_of((1, 2, 1, 1), "a b c d", k="a", l="a", m="b", n="c")
        told = plan_for(house)
        self.assertEqual(told, walked(house))
        self.assertEqual(told[0], "none")

    def test_all_small_houses(self):
        words = {"plan": 0, "none": 0}
        for house in small_houses():
            told = plan_for(house, 2000)
            self.assertEqual(told, walked(house))
            words[told[0]] += 1
        self.assertGreater(min(words.values()), 40)

    def test_the_plan_is_the_least_of_the_right_ones(self):
        for house in small_houses():
            right = [plan for plan in all_plans(house) if word_of(house, plan) == ("good", None)]
            self.assertEqual(plan_for(house, 2000)[1], right[0] if right else None)

    def test_the_plan_is_right(self):
        for house in small_houses():
            plan = plan_for(house, 2000)[1]
            if plan is not None:
                self.assertEqual(list(barrels_of(house, plan)), house.doors)
                self.assertIsNone(fault_of(house, plan))

    def test_doors_and_names_in_no_order(self):
        house = house_of((2, 3, 2, 1), "z b y a", w="b", c="z a", x="y", d="z b y")
        self.assertEqual(plan_for(house, 2000), walked(house))

    def test_wings(self):
        wings = [("v", ["b"]), ("w", ["a", "v"])]
        house = House(RULES, ["a", "b", "c"], wings, [("k", ["w"]), ("l", ["v", "c"]), ("m", ["c"])])
        flat = house_of(RULES, "a b c", k="a b", l="b c", m="c")
        self.assertEqual(plan_for(house), walked(flat))

    def test_a_large_house(self):
        letters = "abcdefghijklmnopqrst"
        house = House((24, 20, 2, 19), ["d" + letter for letter in letters], [],
                      [("k" + letter, ["d" + letter]) for letter in letters])
        told = plan_for(house, 2000)
        self.assertEqual(told[0], "plan")
        self.assertEqual(told[1], {"k" + letter: (0,) * 23 + (cut,) for cut, letter in enumerate(letters)})
        self.assertEqual(len(told[2]), 210)


class Most(Asker):
    def assert_more(self, house, most):
        self.assert_told(("more", None, walked(house)[2][:most]), plan_for, house, most)

    def test_none(self):
        for house in [read_house(TEXT), house_of(RULES, "a", k="a"), house_without_a_plan()]:
            self.assert_told(("more", None, []), plan_for, house, 0)

    def test_one(self):
        self.assert_told(("more", None, TRIALS[:1]), plan_for, read_house(TEXT), 1)
        self.assert_told(("plan", {"k": (0, 0)}, [(1, (0, 0), "good", None)]), plan_for, house_of(RULES, "a", k="a"), 1)

    def test_as_many_as_are_needed_and_one_less(self):
        for house in [house_of(RULES, "a b", k="a b", l="b", m="a"), house_without_a_plan(),
                      house_of(RULES, "a b", k="b", l="a"), house_of((1, 2, 1, 1), "a b c", k="a", l="a b", m="c b")]:
            told = walked(house)
            needed = len(told[2])
            self.assert_told(told, plan_for, house, needed)
            self.assert_told(told, plan_for, house, needed + 1)
            for most in range(needed):
                self.assert_more(house, most)

    def test_all_small_houses_one_trial_short(self):
        for house in small_houses():
            told = walked(house)
            needed = len(told[2])
            self.assertEqual(plan_for(house, needed), told)
            self.assertEqual(plan_for(house, needed - 1), ("more", None, told[2][:-1]))

    def test_left_out(self):
        # One that takes more than two hundred trials, and less than two thousand.
        house = house_of((3, 3, 2, 2), "a b c", k="a b", l="b c", m="c a", n="a b c")
        told = walked(house)
        self.assertEqual((told[0], len(told[2])), ("plan", 964))
        self.assert_told(("more", None, told[2][:200]), plan_for, house)
        self.assert_told(("more", None, told[2][:200]), plan_for, house, 200)
        self.assert_told(("more", None, told[2][:201]), plan_for, house, 201)
        self.assert_told(told, plan_for, house, 2000)
        self.assertEqual(plan_for(house, most=2000), told)

    def test_two_thousand(self):
        house = house_of(RULES, "a b c", k="a b", l="b c", m="c a", n="a b c")
        told = walked(house)
        self.assertEqual((told[0], len(told[2])), ("none", 3330))
        self.assert_told(("more", None, told[2][:2000]), plan_for, house, 2000)


class Own(unittest.TestCase):
    def test_what_is_told_is_the_askers_own(self):
        for house in [read_house(TEXT), house_without_a_plan()]:
            for most in [3, 200]:
                right = plan_for(house, most)
                told = plan_for(house, most)
                spoil(told)
                self.assertEqual(plan_for(house, most), right)
                self.assertNotEqual(told, right)

    def test_no_two_trials_share_a_list(self):
        told = plan_for(house_without_a_plan())
        crosses = [why[2] for _, _, word, why in told[2] if word == "open"]
        self.assertEqual(len({id(cross) for cross in crosses}), len(crosses))


if __name__ == "__main__":
    unittest.main()
