import copy
import unittest

from wardsmith.errors import Ring, Shared, SmithError, Twice, Unknown
from wardsmith.houses import House, read_house
from wardsmith.looks import doors_of, holders, look_at

RULES = (5, 6, 2, 3)

TEXT = """rules 5 6 2 3
door front
door cellar
door attic
door shed
wing below = cellar
wing upper = attic
wing inner = upper below
wing all = inner front
key anna opens all
key bert opens below front
key carl opens cellar
key dora opens attic upper"""

LETTERS = "abcdefghijklmnopqrstuvwxyz"
SIXTY = ["w" + first + second for first in LETTERS for second in LETTERS][:60]


def house_of(doors, wings, grants):
    return House(RULES, doors.split(), [(name, members.split()) for name, members in wings],
                 [(name, opened.split()) for name, opened in grants])


class Asker(unittest.TestCase):
    def assert_refused(self, house, kind, name):
        before = copy.deepcopy(vars(house))
        with self.subTest(repr(before)):
            with self.assertRaises(SmithError) as taken:
                look_at(house)
            self.assertEqual(type(taken.exception), kind)
            self.assertEqual(taken.exception.name, name)
            self.assertEqual(vars(house), before)

    def assert_fine(self, house):
        before = copy.deepcopy(vars(house))
        with self.subTest(repr(before)):
            self.assertIsNone(look_at(house))
            self.assertEqual(vars(house), before)


class Fine(Asker):
    def test_ordinary(self):
        self.assert_fine(read_house(TEXT))
        self.assert_fine(house_of("a", [], []))
        self.assert_fine(house_of("a b", [], [("k", "a b"), ("l", "a b")]))

    def test_doors_may_be_members_of_several_wings(self):
        self.assert_fine(house_of("a b", [("v", "a b"), ("w", "b a"), ("x", "a v")], [("k", "w v")]))

    def test_wings_may_be_opened_by_several_keys(self):
        self.assert_fine(house_of("a", [("v", "a"), ("w", "v")], [("k", "v w a"), ("l", "v w")]))

    def test_members_may_be_told_in_later_rows(self):
        self.assert_fine(house_of("a", [("v", "w"), ("w", "x"), ("x", "a")], []))


class Names(Asker):
    def test_twice_among_doors_wings_and_keys(self):
        self.assert_refused(house_of("a a", [], []), Twice, "a")
        self.assert_refused(house_of("a b c b", [], []), Twice, "b")
        self.assert_refused(house_of("a", [("w", "a"), ("w", "a")], []), Twice, "w")
        self.assert_refused(house_of("a", [], [("k", "a"), ("k", "a")]), Twice, "k")

    def test_twice_among_things_of_two_kinds(self):
        self.assert_refused(house_of("a", [("a", "a")], []), Twice, "a")
        self.assert_refused(house_of("a", [], [("a", "a")]), Twice, "a")
        self.assert_refused(house_of("a", [("w", "a")], [("w", "a")]), Twice, "w")

    def test_the_row_that_comes_second_first_is_told(self):
        # a comes first, but b comes again earlier.
        self.assert_refused(house_of("a b b a", [], []), Twice, "b")
        self.assert_refused(house_of("a b", [("b", "a"), ("a", "b")], []), Twice, "b")
        self.assert_refused(house_of("a", [("w", "a")], [("w", "a"), ("a", "a")]), Twice, "w")

    def test_unknown_members(self):
        self.assert_refused(house_of("a", [("w", "b")], []), Unknown, "b")
        self.assert_refused(house_of("a", [("w", "a c b")], []), Unknown, "c")
        self.assert_refused(house_of("a", [("v", "a"), ("w", "v b")], []), Unknown, "b")

    def test_unknown_things_that_keys_open(self):
        self.assert_refused(house_of("a", [], [("k", "b")]), Unknown, "b")
        self.assert_refused(house_of("a", [("w", "a")], [("k", "a w"), ("l", "a c b")]), Unknown, "c")

    def test_keys_are_neither_doors_nor_wings(self):
        self.assert_refused(house_of("a", [("w", "k")], [("k", "a")]), Unknown, "k")
        self.assert_refused(house_of("a", [], [("k", "a"), ("l", "k")]), Unknown, "k")
        self.assert_refused(house_of("a", [], [("k", "k")]), Unknown, "k")

    def test_wings_are_looked_at_ahead_of_keys(self):
        self.assert_refused(house_of("a", [("w", "c")], [("k", "b")]), Unknown, "c")

    def test_shared(self):
        self.assert_refused(house_of("a", [("v", "a"), ("w", "v"), ("x", "v")], []), Shared, "v")
        self.assert_refused(house_of("a", [("w", "v"), ("x", "a v"), ("v", "a")], []), Shared, "v")
        self.assert_refused(house_of("a", [("w", "v u"), ("x", "u v"), ("v", "a"), ("u", "a")], []), Shared, "u")

    def test_shared_of_three_wings(self):
        self.assert_refused(house_of("a", [("u", "a"), ("v", "a"), ("w", "v"), ("x", "u"), ("y", "v u")], []), Shared,
                            "v")

    def test_a_wing_that_holds_itself_and_is_held(self):
        self.assert_refused(house_of("a", [("v", "v a"), ("w", "v")], []), Shared, "v")
        self.assert_refused(house_of("a", [("w", "v"), ("v", "v a")], []), Shared, "v")


class Rounds(Asker):
    def test_twice_is_told_ahead_of_all(self):
        self.assert_refused(house_of("a", [("w", "b")], [("k", "a"), ("k", "a")]), Twice, "k")
        self.assert_refused(house_of("a", [("v", "a"), ("w", "v"), ("x", "v")], [("k", "a"), ("k", "a")]), Twice, "k")
        self.assert_refused(house_of("a", [("w", "w")], [("k", "a"), ("a", "a")]), Twice, "a")

    def test_unknown_and_shared_are_one_round(self):
        wings = [("v", "a"), ("w", "v")]
        self.assert_refused(house_of("a", wings + [("x", "v b")], []), Shared, "v")
        self.assert_refused(house_of("a", wings + [("x", "b v")], []), Unknown, "b")
        self.assert_refused(house_of("a", wings + [("x", "v"), ("y", "b")], []), Shared, "v")
        self.assert_refused(house_of("a", wings + [("x", "b"), ("y", "v")], []), Unknown, "b")
        self.assert_refused(house_of("a", wings + [("x", "v")], [("k", "b")]), Shared, "v")

    def test_unknown_and_shared_are_told_ahead_of_rings(self):
        self.assert_refused(house_of("a", [("w", "w")], [("k", "b")]), Unknown, "b")
        self.assert_refused(house_of("a", [("w", "w"), ("x", "b")], []), Unknown, "b")
        self.assert_refused(house_of("a", [("w", "w"), ("v", "a"), ("x", "v"), ("y", "v")], []), Shared, "v")


class Rings(unittest.TestCase):
    def ring_of(self, house):
        before = copy.deepcopy(vars(house))
        with self.assertRaises(SmithError) as taken:
            look_at(house)
        self.assertEqual(type(taken.exception), Ring)
        self.assertEqual(vars(house), before)
        ring = taken.exception.ring
        self.assertIs(type(ring), list)
        self.assertEqual(len(set(ring)), len(ring))
        members = dict(house.wings)
        for name, below in zip(ring, ring[1:] + ring[:1]):
            self.assertIn(below, members[name])
        return ring

    def test_of_one_wing(self):
        self.assertEqual(self.ring_of(house_of("a", [("w", "w")], [])), ["w"])
        self.assertEqual(self.ring_of(house_of("a", [("v", "a"), ("w", "a w v")], [])), ["w"])

    def test_of_two(self):
        self.assertEqual(sorted(self.ring_of(house_of("a", [("v", "w"), ("w", "v")], []))), ["v", "w"])

    def test_of_several_each_with_the_next_one_among_its_members(self):
        for wings in [[("u", "v"), ("v", "w"), ("w", "u")], [("u", "w"), ("w", "v"), ("v", "u")],
                      [("w", "a u"), ("v", "w a"), ("u", "a v")]]:
            with self.subTest(wings):
                self.assertEqual(sorted(self.ring_of(house_of("a", wings, []))), ["u", "v", "w"])

    def test_wings_that_hang_from_a_ring_are_none_of_it(self):
        wings = [("low", "a"), ("mid", "low"), ("u", "mid v"), ("v", "w"), ("w", "u a")]
        for order in [wings, wings[::-1], wings[2:] + wings[:2]]:
            with self.subTest(order):
                self.assertEqual(sorted(self.ring_of(house_of("a", order, []))), ["u", "v", "w"])

    def test_wings_beside_a_ring_are_none_of_it(self):
        wings = [("low", "a"), ("high", "low"), ("v", "w"), ("w", "v")]
        self.assertEqual(sorted(self.ring_of(house_of("a", wings, [("k", "high")]))), ["v", "w"])

    def test_one_of_two_rings(self):
        ring = self.ring_of(house_of("a", [("t", "u"), ("u", "t"), ("v", "w"), ("w", "v")], []))
        self.assertIn(sorted(ring), [["t", "u"], ["v", "w"]])

    def test_of_sixty(self):
        wings = [(name, below) for name, below in zip(SIXTY, SIXTY[1:] + SIXTY[:1])]
        self.assertEqual(sorted(self.ring_of(house_of("a", wings, []))), SIXTY)
        self.assertEqual(sorted(self.ring_of(house_of("a", wings[::-1], []))), SIXTY)

    def test_it_is_the_askers_own(self):
        house = house_of("a", [("v", "w"), ("w", "v")], [])
        self.ring_of(house).clear()
        self.assertEqual(sorted(self.ring_of(house)), ["v", "w"])


class Doors(unittest.TestCase):
    def setUp(self):
        self.house = read_house(TEXT)

    def assert_doors(self, name, doors):
        with self.subTest(name):
            told = doors_of(self.house, name)
            self.assertIs(type(told), list)
            self.assertEqual(told, doors.split())

    def test_of_a_door(self):
        for door in ["front", "cellar", "attic", "shed"]:
            self.assert_doors(door, door)

    def test_of_a_wing(self):
        self.assert_doors("below", "cellar")
        self.assert_doors("upper", "attic")

    def test_of_wings_within_wings_in_the_order_of_the_house(self):
        self.assert_doors("inner", "cellar attic")
        self.assert_doors("all", "front cellar attic")

    def test_of_a_key(self):
        self.assert_doors("anna", "front cellar attic")
        self.assert_doors("bert", "front cellar")
        self.assert_doors("carl", "cellar")

    def test_each_once(self):
        self.assert_doors("dora", "attic")
        self.house = house_of("a b c", [("u", "c b"), ("v", "b a"), ("w", "u v c")], [("k", "w a v b")])
        self.assert_doors("w", "a b c")
        self.assert_doors("k", "a b c")
        self.assert_doors("v", "a b")

    def test_sixty_wings_one_within_another(self):
        wings = [(name, f"{below} b") for name, below in zip(SIXTY, SIXTY[1:] + ["a"])]
        for order in [wings, wings[::-1]]:
            self.house = house_of("c b a", order, [("k", SIXTY[0]), ("l", SIXTY[59]), ("m", "c")])
            self.assertIsNone(look_at(self.house))
            for name in [SIXTY[0], SIXTY[59], "k", "l"]:
                self.assert_doors(name, "b a")
            self.assertEqual(holders(self.house, "a"), ["k", "l"])

    def test_it_is_the_askers_own(self):
        before = copy.deepcopy(vars(self.house))
        for name in ["front", "all", "anna"]:
            told = doors_of(self.house, name)
            right = list(told)
            told.append("gate")
            told[0] = "window"
            self.assertEqual(doors_of(self.house, name), right)
        self.assertEqual(vars(self.house), before)


class Holders(unittest.TestCase):
    def setUp(self):
        self.house = read_house(TEXT)

    def assert_holders(self, door, keys):
        with self.subTest(door):
            told = holders(self.house, door)
            self.assertIs(type(told), list)
            self.assertEqual(told, keys.split())

    def test_in_the_order_of_the_house(self):
        self.assert_holders("front", "anna bert")
        self.assert_holders("cellar", "anna bert carl")
        self.assert_holders("attic", "anna dora")

    def test_a_door_without_a_holder(self):
        self.assert_holders("shed", "")
        self.house = house_of("a", [("w", "a")], [])
        self.assert_holders("a", "")

    def test_keys_that_are_not_sorted_by_name(self):
        self.house = house_of("a b", [("w", "a")], [("z", "w"), ("y", "b"), ("x", "b a"), ("m", "a")])
        self.assert_holders("a", "z x m")
        self.assert_holders("b", "y x")

    def test_holders_are_those_among_whose_doors_it_is(self):
        for door in self.house.doors:
            keys = [name for name, _ in self.house.grants if door in doors_of(self.house, name)]
            self.assert_holders(door, " ".join(keys))

    def test_it_is_the_askers_own(self):
        before = copy.deepcopy(vars(self.house))
        told = holders(self.house, "cellar")
        told.append("emil")
        told[0] = "emil"
        self.assert_holders("cellar", "anna bert carl")
        self.assertEqual(vars(self.house), before)


if __name__ == "__main__":
    unittest.main()
