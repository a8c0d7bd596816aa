import itertools
import unittest

from tests.things import Asker, all_houses, house_of, word_of
from wardsmith.cuts import is_cuts
from wardsmith.errors import NoTower, TooFlat, TooNarrow
from wardsmith.houses import House, read_house
from wardsmith.looks import look_at
from wardsmith.plans import barrels_of, fault_of
from wardsmith.towers import elder_of, levels_of, tower_plan

RULES = (8, 4, 2, 3)

# Levels 0 to 3; brothers stand apart in the order of the keys, and elders behind those below them.
TEXT = """rules 6 4 2 3
door front
door cellar
door attic
door shed
door gate
door safe
wing below = cellar safe
wing all = attic below front
key carl opens safe
key bert opens below
key emil opens attic
key anna opens all
key dora opens shed
key fred opens front"""

LEVELS = {"carl": 2, "bert": 1, "emil": 1, "anna": 0, "dora": 0, "fred": 1}
ELDERS = {"carl": "bert", "bert": "anna", "emil": "anna", "anna": None, "dora": None, "fred": "anna"}

LETTERS = "abcdefghijklmnopqrstuvwxyz"
DOORS = ["d" + first + second for first in LETTERS for second in LETTERS]
KEYS = ["k" + first + second for first in LETTERS for second in LETTERS]


def spans(house):
    return {name: set(opened) for name, opened in house.grants}


# Two keys of which it isn't so that their doors lie one within the other or apart, and are unlike.
def crossed(house):
    doors = spans(house)
    for one, other in itertools.combinations(doors, 2):
        if doors[one] == doors[other]:
            return (one, other)
        if not (doors[one] < doors[other] or doors[one] > doors[other] or doors[one].isdisjoint(doors[other])):
            return (one, other)
    return None


def above(house, name):
    doors = spans(house)
    return sorted([other for other in doors if doors[name] < doors[other]], key=lambda other: len(doors[other]))


# So many keys, each with a door of its own.
def row_of(rules, many):
    return House(rules, DOORS[:many], [], [(key, [door]) for key, door in zip(KEYS[:many], DOORS)])


# So many keys, the doors of each within those of the one before.
def pile_of(rules, many):
    return House(rules, DOORS[:many], [], [(key, DOORS[place:many]) for place, key in enumerate(KEYS[:many])])


class Asks(Asker):
    def assert_no_tower(self, one, other, house):
        fields = {"one": one, "other": other}
        self.assert_refused(NoTower, fields, levels_of, house)
        self.assert_refused(NoTower, fields, tower_plan, house)
        for name in [name for name, _ in house.grants]:
            self.assert_refused(NoTower, fields, elder_of, house, name)


class Levels(Asks):
    def test_ordinary(self):
        self.assert_told(LEVELS, levels_of, read_house(TEXT))

    def test_elders_over_several_levels(self):
        house = read_house(TEXT)
        for name, elder in ELDERS.items():
            self.assert_told(elder, elder_of, house, name)

    def test_keys_in_the_order_of_the_house(self):
        house = house_of(RULES, "a b c", z="a", y="a b c", x="a b", w="c")
        self.assert_told({"z": 2, "y": 0, "x": 1, "w": 1}, levels_of, house)
        for name, elder in {"z": "x", "y": None, "x": "y", "w": "y"}.items():
            self.assert_told(elder, elder_of, house, name)

    def test_a_pile(self):
        house = pile_of((24, 20, 2, 19), 20)
        self.assert_told({key: level for level, key in enumerate(KEYS[:20])}, levels_of, house)
        for above_it, key in zip([None] + KEYS, KEYS[:20]):
            self.assert_told(above_it, elder_of, house, key)

    def test_keys_apart(self):
        house = row_of(RULES, 20)
        self.assert_told(dict.fromkeys(KEYS[:20], 0), levels_of, house)
        for key in KEYS[:20]:
            self.assert_told(None, elder_of, house, key)

    def test_a_house_without_keys(self):
        self.assert_told({}, levels_of, house_of(RULES, "a b"))

    def test_one_key(self):
        self.assert_told({"k": 0}, levels_of, house_of(RULES, "a b", k="b a"))
        self.assert_told(None, elder_of, house_of(RULES, "a b", k="b a"), "k")

    def test_all_small_houses(self):
        towers = 0
        for rules, doors, keys in [(RULES, 3, 3), (RULES, 2, 3), (RULES, 4, 2), (RULES, 1, 2)]:
            for house in all_houses(rules, doors, keys):
                if crossed(house) is None:
                    towers += 1
                    self.assert_told({name: len(above(house, name)) for name in spans(house)}, levels_of, house)
                    for name in spans(house):
                        elder = above(house, name)[0] if above(house, name) else None
                        self.assertEqual(elder_of(house, name), elder)
        self.assertGreater(towers, 50)


class NoTowers(Asks):
    def test_doors_that_are_alike(self):
        self.assert_no_tower("k", "l", house_of(RULES, "a b", k="a", l="a"))
        self.assert_no_tower("k", "m", house_of(RULES, "a b", k="a b", l="a", m="b a"))
        house = House(RULES, ["a", "b"], [("w", ["a", "b"])], [("k", ["b", "a"]), ("l", ["w"])])
        self.assert_no_tower("k", "l", house)

    def test_doors_that_cross(self):
        self.assert_no_tower("k", "l", house_of(RULES, "a b c", k="a b", l="b c"))
        self.assert_no_tower("l", "m", house_of(RULES, "a b c", k="a", l="a b", m="b c"))
        house = House(RULES, ["a", "b", "c"], [("v", ["a", "b"]), ("w", ["c", "b"])], [("k", ["v"]), ("l", ["w"])])
        self.assert_no_tower("k", "l", house)

    def test_the_first_key_and_the_first_behind_it(self):
        house = house_of(RULES, "a b c d", n="d", m="c d", z="a b", x="b c", y="a b")
        self.assert_no_tower("m", "x", house)
        # x comes across y ahead of z, and y across z: x counts first, then the first behind it.
        house = house_of(RULES, "a b c", x="a b", y="b c", z="a c")
        self.assert_no_tower("x", "y", house)
        house = house_of(RULES, "a b c d", w="d", x="a b", v="a", z="b c", y="a c")
        self.assert_no_tower("x", "z", house)
        house = house_of(RULES, "a b c d", w="a b c", x="a d", y="b", z="b")
        self.assert_no_tower("w", "x", house)
        house = house_of(RULES, "a b c d", z="a b", y="c", x="c", w="b d")
        self.assert_no_tower("z", "w", house)

    def test_the_step_is_less(self):
        for rules in [(8, 4, 2, 2), (8, 4, 2, 1), (8, 20, 20, 18), (24, 3, 3, 1)]:
            self.assert_no_tower(None, None, house_of(rules, "a b", k="a b", l="b"))
            self.assert_no_tower(None, None, house_of(rules, "a b", k="b"))
            self.assert_no_tower(None, None, house_of(rules, "a b"))

    def test_the_keys_count_ahead_of_the_step(self):
        self.assert_no_tower("k", "l", house_of((8, 4, 2, 2), "a b", k="a", l="a"))
        self.assert_no_tower("l", "m", house_of((8, 4, 2, 1), "a b c", k="a", l="a b", m="b c"))

    def test_the_step_is_depths_less_one(self):
        for rules in [(8, 2, 2, 1), (8, 3, 2, 2), (8, 20, 20, 19)]:
            self.assert_told({"k": 0, "l": 1}, levels_of, house_of(rules, "a b", k="a b", l="b"))

    def test_all_small_houses(self):
        refused = 0
        for rules, doors, keys in [(RULES, 3, 3), (RULES, 2, 3), ((8, 4, 2, 2), 2, 2), (RULES, 3, 2)]:
            for house in all_houses(rules, doors, keys):
                told = crossed(house) or ((None, None) if rules[3] < rules[1] - 1 else None)
                if told is not None:
                    refused += 1
                    for ask in [levels_of, tower_plan, lambda house: elder_of(house, "u")]:
                        with self.assertRaises(NoTower) as taken:
                            ask(house)
                        self.assertEqual((taken.exception.one, taken.exception.other), told)
        self.assertGreater(refused, 100)


class Plans(Asks):
    def assert_right(self, house):
        plan = tower_plan(house)
        self.assertEqual(list(plan), [name for name, _ in house.grants])
        for one in plan.values():
            self.assertTrue(is_cuts(house.rules, one))
        barrels_of(house, plan)
        self.assertIsNone(fault_of(house, plan))

    def test_ordinary(self):
        house = read_house(TEXT)
        look_at(house)
        plan = {"carl": (1, 1, 1, 0, 0, 0), "bert": (1, 1, 0, 0, 0, 0), "emil": (1, 2, 0, 0, 0, 0),
                "anna": (1, 0, 0, 0, 0, 0), "dora": (2, 0, 0, 0, 0, 0), "fred": (1, 3, 0, 0, 0, 0)}
        self.assert_told(plan, tower_plan, house)
        self.assert_right(house)

    def test_brothers_are_numbered_in_the_order_of_the_house(self):
        house = house_of(RULES, "a b c", z="c", y="a", x="b")
        plan = {"z": (1,) + (0,) * 7, "y": (2,) + (0,) * 7, "x": (3,) + (0,) * 7}
        self.assert_told(plan, tower_plan, house)

    def test_brothers_of_each_elder_are_numbered_by_themselves(self):
        house = house_of((2, 4, 2, 3), "a b c d e f", v="a", w="d", k="a b c", l="d e f", x="e", y="b", z="f")
        plan = {"v": (1, 1), "w": (2, 1), "k": (1, 0), "l": (2, 0), "x": (2, 2), "y": (1, 2), "z": (2, 3)}
        self.assert_told(plan, tower_plan, house)

    def test_the_first_digit_counts_most(self):
        house = row_of((2, 4, 2, 3), 9)
        plan = dict(zip(KEYS, itertools.product([1, 2, 3], repeat=2)))
        self.assert_told(plan, tower_plan, house)

    def test_as_many_brothers_as_a_width_holds_and_one_more(self):
        for depths in [3, 4, 5, 8, 9]:
            base = depths - 1
            for width in [1, 2, 3]:
                many = base ** width
                if many <= 59:
                    narrow = (width, depths, 1, base)
                    told = dict(zip(KEYS, itertools.product(range(1, depths), repeat=width)))
                    self.assert_told(told, tower_plan, row_of(narrow, many))
                    self.assert_refused(TooNarrow, {"need": width + 1}, tower_plan, row_of(narrow, many + 1))
                    told = dict(zip(KEYS[:many + 1], itertools.product(range(1, depths), repeat=width + 1)))
                    self.assert_told(told, tower_plan, row_of((width + 1, depths, 1, base), many + 1))

    def test_sixty_brothers(self):
        self.assert_right(row_of((6, 3, 1, 2), 60))
        self.assert_refused(TooNarrow, {"need": 6}, tower_plan, row_of((5, 3, 1, 2), 60))
        self.assert_right(row_of((2, 20, 1, 19), 60))
        self.assert_refused(TooNarrow, {"need": 2}, tower_plan, row_of((1, 20, 1, 19), 60))

    def test_the_greatest_number_of_brothers_makes_the_width(self):
        # Two below k, and four below l: the width of level 1 is 2, for those below k, too.
        house = house_of((3, 3, 2, 2), "a b c d e f g h", k="a b", l="c d e f g h", m="a", n="b", o="c", p="d", q="e",
                         r="f")
        plan = {"k": (1, 0, 0), "l": (2, 0, 0), "m": (1, 1, 1), "n": (1, 1, 2), "o": (2, 1, 1), "p": (2, 1, 2),
                "q": (2, 2, 1), "r": (2, 2, 2)}
        self.assert_told(plan, tower_plan, house)
        self.assert_right(house)

    def test_widths_that_come_to_just_the_places_and_to_one_more(self):
        grants = dict(k="a b c", l="d e", m="f", n="a", o="b", p="c", q="d")
        # Three on level 0, three below k: widths of 2 each with three depths, of 1 with four.
        house = house_of((4, 3, 2, 2), "a b c d e f", **grants)
        self.assert_told({"k": (1, 1, 0, 0), "l": (1, 2, 0, 0), "m": (2, 1, 0, 0), "n": (1, 1, 1, 1), "o": (1, 1, 1, 2),
                          "p": (1, 1, 2, 1), "q": (1, 2, 1, 1)}, tower_plan, house)
        self.assert_right(house)
        for places in [1, 2, 3]:
            house = house_of((places, 3, 2, 2), "a b c d e f", **grants)
            self.assert_refused(TooNarrow, {"need": 4}, tower_plan, house)
        self.assert_right(house_of((2, 4, 2, 3), "a b c d e f", **grants))
        self.assert_refused(TooNarrow, {"need": 2}, tower_plan, house_of((1, 4, 2, 3), "a b c d e f", **grants))

    def test_a_pile(self):
        house = pile_of((24, 2, 2, 1), 24)
        plan = {key: (1,) * (level + 1) + (0,) * (23 - level) for level, key in enumerate(KEYS[:24])}
        self.assert_told(plan, tower_plan, house)
        self.assert_right(house)
        self.assert_refused(TooNarrow, {"need": 25}, tower_plan, pile_of((24, 2, 2, 1), 25))
        self.assert_refused(TooNarrow, {"need": 60}, tower_plan, pile_of((24, 20, 20, 19), 60))

    def test_one_key(self):
        self.assert_told({"k": (1, 0, 0)}, tower_plan, house_of((3, 2, 1, 1), "a b", k="b"))
        self.assert_told({"k": (1,)}, tower_plan, house_of((1, 2, 1, 1), "a b", k="a b"))

    def test_a_house_without_keys(self):
        self.assert_told({}, tower_plan, house_of((1, 2, 1, 1), "a b"))
        self.assert_told({}, tower_plan, house_of(RULES, "a"))

    def test_wings(self):
        house = House((2, 4, 2, 3), ["a", "b", "c"], [("v", ["b"]), ("w", ["v", "a"])], [("k", ["v"]), ("l", ["w"])])
        self.assert_told({"k": (1, 1), "l": (1, 0)}, tower_plan, house)

    def test_all_small_towers_are_right(self):
        for rules in [(6, 3, 2, 2), (4, 4, 2, 3), (3, 4, 3, 3)]:
            for doors, keys in [(3, 3), (4, 3), (2, 2), (3, 4), (5, 2)]:
                for house in all_houses(rules, doors, keys):
                    if crossed(house) is None:
                        self.assertEqual(word_of(house, tower_plan(house)), ("good", None))

    def test_all_small_towers_as_the_document_tells(self):
        for doors, keys in [(3, 3), (4, 4)]:
            for house in all_houses((6, 3, 2, 2), doors, keys):
                if crossed(house) is None:
                    self.assertEqual(tower_plan(house), self.told_anew(house))

    def told_anew(self, house):
        places, depths, _, _ = house.rules
        levels = {name: len(above(house, name)) for name in spans(house)}
        brothers = {name: [other for other in levels if above(house, other)[:1] == above(house, name)[:1]]
                    for name in levels}
        widths = []
        for level in sorted(set(levels.values())):
            most = max(len(brothers[name]) for name in levels if levels[name] == level)
            widths.append(min(width for width in range(1, 60) if (depths - 1) ** width >= most))
        plan = {}
        for name in sorted(levels, key=lambda name: levels[name]):
            level = levels[name]
            start = sum(widths[:level])
            one = list(plan[above(house, name)[0]]) if level else [0] * places
            digits = list(itertools.product(range(depths - 1), repeat=widths[level]))[brothers[name].index(name)]
            one[start:start + widths[level]] = [digit + 1 for digit in digits]
            plan[name] = tuple(one)
        return plan


class Flat(Asks):
    def assert_flat(self, house):
        self.assert_refused(TooFlat, {}, tower_plan, house)

    def test_heights_1_and_two_levels(self):
        self.assert_flat(house_of((8, 4, 1, 3), "a b", k="a b", l="b"))
        self.assert_flat(house_of((8, 4, 1, 3), "a b c", m="c", l="b", k="a b"))
        self.assert_flat(pile_of((24, 20, 1, 19), 5))

    def test_heights_1_and_one_level(self):
        self.assert_told({"k": (1, 0), "l": (2, 0)}, tower_plan, house_of((2, 4, 1, 3), "a b", k="a", l="b"))

    def test_heights_2_and_two_levels(self):
        self.assert_told({"k": (1, 0), "l": (1, 1)}, tower_plan, house_of((2, 4, 2, 3), "a b", k="a b", l="b"))

    def test_two_brothers_and_depths_2(self):
        self.assert_flat(house_of((8, 2, 2, 1), "a b", k="a", l="b"))
        self.assert_flat(house_of((8, 2, 1, 1), "a b", k="a", l="b"))
        # Brothers on a level below, and of another elder than the first.
        self.assert_flat(house_of((8, 2, 2, 1), "a b c", k="a b c", l="a", m="b"))
        self.assert_flat(house_of((8, 2, 2, 1), "a b c d", k="a b c d", l="a b c", m="a", n="b"))
        self.assert_flat(row_of((24, 2, 2, 1), 60))

    def test_one_brother_and_depths_2(self):
        house = house_of((3, 2, 2, 1), "a b c", l="a b", k="a b c", m="a")
        self.assert_told({"l": (1, 1, 0), "k": (1, 0, 0), "m": (1, 1, 1)}, tower_plan, house)

    def test_two_brothers_and_depths_3(self):
        self.assert_told({"k": (1,), "l": (2,)}, tower_plan, house_of((1, 3, 1, 2), "a b", k="a", l="b"))

    def test_it_is_told_ahead_of_too_narrow(self):
        self.assert_flat(house_of((1, 4, 1, 3), "a b", k="a b", l="b"))
        self.assert_flat(house_of((1, 2, 2, 1), "a b c", k="a b c", l="a", m="b"))
        self.assert_flat(pile_of((24, 20, 1, 19), 60))

    def test_it_is_told_behind_no_tower(self):
        self.assert_no_tower("k", "l", house_of((8, 2, 1, 1), "a b c", k="a b", l="b c", m="a"))
        self.assert_no_tower(None, None, house_of((8, 4, 1, 2), "a b", k="a b", l="b"))

    def test_too_narrow_is_told_behind_no_tower(self):
        self.assert_no_tower("k", "l", house_of((1, 4, 2, 3), "a b c", k="a b", l="b c", m="a"))
        self.assert_no_tower(None, None, house_of((1, 4, 2, 2), "a b", k="a b", l="b"))

    def test_levels_and_elders_are_told_of_flat_and_narrow_towers(self):
        for rules in [(1, 4, 1, 3), (1, 4, 2, 3), (8, 2, 1, 1)]:
            house = house_of(rules, "a b c", k="a b c", l="b", m="c")
            self.assert_told({"k": 0, "l": 1, "m": 1}, levels_of, house)
            self.assert_told("k", elder_of, house, "m")


if __name__ == "__main__":
    unittest.main()
