import copy
import unittest

from tests.things import NO_NUMBERS, NO_TEXTS
from wardsmith.errors import NoRow
from wardsmith.houses import House, read_house, shown_house

LETTERS = "abcdefghijklmnopqrstuvwxyz"

TEXT = """rules 5 6 2 3
door front
door cellar
door attic
wing below = cellar
wing all = front attic below
key anna opens all
key bert opens front cellar"""

SMALLEST = "rules 1 2 1 1\ndoor a"

# None of them holds a blank or a line feed, so each is one word of its row.
NO_NAMES = ["", "Front", "front1", "1", "front-door", "front_door", "=", "fr\tont", "\u00e4", "abcdefghijklm",
            "\uff41", "front\r", "front\x00", "door", "key", "opens", "rules", "wing"]


# Sixty names and more, none of them a kept word.
def names(many, start):
    return [start + first + second for first in LETTERS for second in LETTERS][:many]


def rows_of(doors, wings, keys):
    return ["rules 5 6 2 3"] + [f"door {name}" for name in names(doors, "d")] + \
        [f"wing {name} = daa" for name in names(wings, "w")] + [f"key {name} opens daa" for name in names(keys, "k")]


class Made(unittest.TestCase):
    def test_fields(self):
        house = House((5, 6, 2, 3), ["front"], [("all", ["front"])], [("anna", ["all", "front"])])
        self.assertEqual(house.rules, (5, 6, 2, 3))
        self.assertEqual(house.doors, ["front"])
        self.assertEqual(house.wings, [("all", ["front"])])
        self.assertEqual(house.grants, [("anna", ["all", "front"])])

    def test_made_by_the_arguments_names(self):
        house = House(rules=(1, 2, 1, 1), doors=["a"], wings=[], grants=[])
        self.assertEqual((house.rules, house.doors, house.wings, house.grants), ((1, 2, 1, 1), ["a"], [], []))


class Reading(unittest.TestCase):
    def test_ordinary(self):
        house = read_house(TEXT)
        self.assertIs(type(house), House)
        self.assertEqual(house.rules, (5, 6, 2, 3))
        self.assertEqual(house.doors, ["front", "cellar", "attic"])
        self.assertEqual(house.wings, [("below", ["cellar"]), ("all", ["front", "attic", "below"])])
        self.assertEqual(house.grants, [("anna", ["all"]), ("bert", ["front", "cellar"])])

    def test_kinds(self):
        house = read_house(TEXT)
        self.assertIs(type(house.rules), tuple)
        self.assertEqual({type(number) for number in house.rules}, {int})
        for things in [house.wings, house.grants]:
            self.assertIs(type(things), list)
            self.assertEqual({(type(thing), type(thing[0]), type(thing[1])) for thing in things}, {(tuple, str, list)})

    def test_one_door_without_wings_and_keys(self):
        house = read_house(SMALLEST)
        self.assertEqual((house.rules, house.doors, house.wings, house.grants), ((1, 2, 1, 1), ["a"], [], []))

    def test_keys_without_wings_and_wings_without_keys(self):
        house = read_house("rules 1 2 1 1\ndoor a\nkey k opens a")
        self.assertEqual((house.wings, house.grants), ([], [("k", ["a"])]))
        house = read_house("rules 1 2 1 1\ndoor a\nwing w = a")
        self.assertEqual((house.wings, house.grants), ([("w", ["a"])], []))

    # These are for the look at the house, not for the reading of it.
    def test_names_in_several_rows_unknown_ones_and_rings_are_read(self):
        text = "rules 1 2 1 1\ndoor a\ndoor a\nwing a = a\nwing w = w v\nwing v = w nowhere\nkey a opens a\nkey k opens k"
        house = read_house(text)
        self.assertEqual(house.doors, ["a", "a"])
        self.assertEqual(house.wings, [("a", ["a"]), ("w", ["w", "v"]), ("v", ["w", "nowhere"])])
        self.assertEqual(house.grants, [("a", ["a"]), ("k", ["k"])])

    def test_names_of_twelve_letters_and_near_the_kept_words(self):
        text = "rules 1 2 1 1\ndoor abcdefghijkl\ndoor doors\nwing keys = open doo\nkey ule opens wings abcdefghijkl"
        self.assertEqual(shown_house(read_house(text)), text)

    def test_sixty_of_each(self):
        text = "\n".join(rows_of(60, 60, 60))
        house = read_house(text)
        self.assertEqual([len(house.doors), len(house.wings), len(house.grants)], [60, 60, 60])
        self.assertEqual(shown_house(house), text)

    def test_a_wing_of_sixty_members(self):
        members = " ".join(names(60, "d"))
        text = "\n".join(rows_of(60, 0, 0) + [f"wing w = {members}", f"key k opens {members}"])
        house = read_house(text)
        self.assertEqual(house.wings, [("w", names(60, "d"))])
        self.assertEqual(house.grants, [("k", names(60, "d"))])


class Showing(unittest.TestCase):
    def test_of_a_house_that_is_made(self):
        house = House((5, 6, 2, 3), ["front", "cellar", "attic"],
                      [("below", ["cellar"]), ("all", ["front", "attic", "below"])],
                      [("anna", ["all"]), ("bert", ["front", "cellar"])])
        self.assertEqual(shown_house(house), TEXT)
        self.assertEqual(shown_house(House((1, 2, 1, 1), ["a"], [], [])), SMALLEST)

    def test_what_is_read_is_written_as_the_same_text(self):
        for text in [TEXT, SMALLEST, "rules 24 20 20 19\ndoor b\ndoor a\nkey z opens b a\nkey c opens a b"]:
            with self.subTest(text):
                self.assertEqual(shown_house(read_house(text)), text)

    def test_what_is_written_is_read_to_a_like_one(self):
        house = House((24, 20, 3, 7), ["b", "a"], [("v", ["a", "b"]), ("w", ["b"])], [("z", ["w", "a"]), ("c", ["b"])])
        self.assertEqual(vars(read_house(shown_house(house))), vars(house))


class Refused(unittest.TestCase):
    def assert_refused(self, thing, row):
        with self.subTest(repr(thing)):
            with self.assertRaises(NoRow) as taken:
                read_house(thing)
            self.assertEqual(type(taken.exception), NoRow)
            self.assertEqual(taken.exception.row, row)

    # The row in the stead of another one of an ordinary house, and as the first that is wrong of two.
    def assert_row_refused(self, place, row):
        rows = TEXT.split("\n")
        rows[place] = row
        self.assert_refused("\n".join(rows), place)
        self.assert_refused("\n".join(rows + ["nothing"]), place)

    def test_what_is_no_text(self):
        for thing in NO_TEXTS + [TEXT.encode(), TEXT.split("\n"), tuple(TEXT.split("\n")), {TEXT: 0}, House]:
            self.assert_refused(thing, 0)

    def test_what_is_refused_stays_as_it_was(self):
        thing = TEXT.split("\n")
        self.assert_refused(thing, 0)
        self.assertEqual(thing, TEXT.split("\n"))

    def test_a_text_that_ends_ahead_of_its_first_door(self):
        self.assert_refused("rules 5 6 2 3", 1)

    def test_a_text_without_signs_or_of_line_feeds(self):
        self.assert_refused("", 0)
        self.assert_refused(" ", 0)
        self.assert_refused("\n", 0)
        self.assert_refused("\n" + TEXT, 0)

    def test_a_line_feed_at_the_end(self):
        self.assert_refused("rules 5 6 2 3\n", 1)
        self.assert_refused(SMALLEST + "\n", 2)
        self.assert_refused(TEXT + "\n", 8)
        self.assert_refused(TEXT + "\n\n", 8)

    def test_rows_without_words(self):
        for place in range(8):
            self.assert_row_refused(place, "")
            self.assert_row_refused(place, " ")

    def test_the_first_wrong_row_is_told(self):
        self.assert_refused("rules 5 6 2 9\nnothing\n", 0)
        self.assert_refused("rules 5 6 2 3\nnothing\ndoor\n", 1)
        self.assert_refused("rules 5 6 2 3\ndoor a\nnothing\ndoor\n", 2)

    def test_rules_that_are_none(self):
        for row in ["rules", "rules ", "rules 5", "rules 5 6 2", "rules 5 6 2 3 1", "rules 0 6 2 3", "rules 25 6 2 3",
                    "rules 5 1 1 1", "rules 5 21 2 3", "rules 5 6 0 3", "rules 5 6 7 3", "rules 5 6 2 0", "rules 5 6 2 6",
                    "rules  5 6 2 3", "rules 5  6 2 3", " rules 5 6 2 3", "rules 5 6 2 3 ", "rules\t5 6 2 3",
                    "rules 5 6 2 3\r", "rules5 6 2 3", "rule 5 6 2 3", "Rules 5 6 2 3", "rules rules 5 6 2 3", "5 6 2 3",
                    "rules = 5 6 2 3", "rules 5,6,2,3", "rules a b c d"]:
            self.assert_row_refused(0, row)

    def test_numbers_written_otherwise(self):
        for wrong in [text for text in NO_NUMBERS if "\n" not in text]:
            for place in range(1, 5):
                words = ["rules", "5", "6", "2", "3"]
                words[place] = wrong
                self.assert_row_refused(0, " ".join(words))
        for row in ["rules 05 6 2 3", "rules 5 6 2 03", "rules 5 6 +2 3", "rules 5 6.0 2 3"]:
            self.assert_row_refused(0, row)

    def test_another_row_first(self):
        for row in ["door front", "wing all = front", "key anna opens front", "nothing"]:
            self.assert_row_refused(0, row)
            self.assert_refused(row, 0)
            self.assert_refused(row + "\n" + TEXT, 0)

    def test_rules_elsewhere_than_first(self):
        rows = TEXT.split("\n")
        for place in range(1, 9):
            self.assert_refused("\n".join(rows[:place] + [rows[0]] + rows[place:]), place)
        self.assert_refused("rules 5 6 2 3\nrules 5 6 2 3", 1)

    def test_doors_that_are_none(self):
        for row in ["door", "door ", "door  front", "door front ", " door front", "door front back", "door = front",
                    "door\tfront", "door front\r", "Door front", "doors front", "doorfront", "front", "door front,back",
                    "door front =", "do or"] + [f"door {name}" for name in NO_NAMES]:
            for place in [1, 2, 3]:
                self.assert_row_refused(place, row)

    def test_wings_that_are_none(self):
        for row in ["wing", "wing ", "wing all", "wing all ", "wing all =", "wing all = ", "wing = front", "wing  = front",
                    "wing all front", "wing all front attic", "wing all opens front", "wing all == front", "wing all=front",
                    "wing all =front", "wing all= front", "wing all  = front", "wing all =  front", "wing all = front ",
                    "wing all = front  attic", " wing all = front", "wing  all = front", "wing all = front\r",
                    "wing all = front,attic", "wing all = front = attic", "wing all both = front", "Wing all = front",
                    "wings all = front", "all = front", "wing all\t=\tfront", "wing all = = front"]:
            for place in [4, 5]:
                self.assert_row_refused(place, row)

    def test_keys_that_are_none(self):
        for row in ["key", "key ", "key anna", "key anna ", "key anna opens", "key anna opens ", "key opens front",
                    "key  opens front", "key anna front", "key anna front attic", "key anna = front", "key anna open front",
                    "key anna opens  front", "key anna  opens front", "key  anna opens front", "key anna opens front ",
                    " key anna opens front", "key anna opens front  attic", "key anna opens front\r",
                    "key anna opens front,attic", "key anna bert opens front", "key anna opens opens front",
                    "key anna opens front opens attic", "Key anna opens front", "keys anna opens front",
                    "anna opens front", "key anna Opens front", "key anna opens = front"]:
            for place in [6, 7]:
                self.assert_row_refused(place, row)

    def test_names_that_are_none_in_wings_and_keys(self):
        for name in NO_NAMES:
            for row in [f"wing {name} = front", f"wing all = {name}", f"wing all = {name} front",
                        f"wing all = front {name}", f"wing all = front {name} attic"]:
                self.assert_row_refused(4, row)
            for row in [f"key {name} opens front", f"key anna opens {name}", f"key anna opens {name} front",
                        f"key anna opens front {name}", f"key anna opens front {name} attic"]:
                self.assert_row_refused(7, row)

    def test_a_name_twice_in_its_list(self):
        for members in ["front front", "front attic front", "attic front front", "front front attic"]:
            self.assert_row_refused(4, f"wing below = {members}")
            self.assert_row_refused(5, f"wing below = {members}")
            self.assert_row_refused(6, f"key anna opens {members}")
            self.assert_row_refused(7, f"key anna opens {members}")

    def test_other_rows(self):
        for row in ["nothing", "front", "# door front", "blank anna", "file anna 0 1", "bolt front", "grant anna front",
                    "a = b", "a opens b", "= a b c", "opens a b c", "wing wing = front", "key key opens front"]:
            for place in range(8):
                self.assert_row_refused(place, row)

    def test_other_line_ends(self):
        self.assert_refused(TEXT.replace("\n", "\r\n"), 0)
        self.assert_refused(TEXT.replace("\n", "\r"), 0)
        self.assert_refused(SMALLEST + "\r", 1)
        self.assert_refused(SMALLEST + "\r\ndoor b", 1)
        self.assert_refused(SMALLEST + "\x0bdoor b", 1)
        self.assert_refused(SMALLEST + "\u2028door b", 1)


class Places(unittest.TestCase):
    def assert_refused(self, rows, place):
        with self.subTest(repr(rows)):
            with self.assertRaises(NoRow) as taken:
                read_house("\n".join(rows))
            self.assertEqual(taken.exception.row, place)

    def test_a_wing_or_key_ahead_of_the_first_door(self):
        self.assert_refused(["rules 5 6 2 3", "wing w = a"], 1)
        self.assert_refused(["rules 5 6 2 3", "key k opens a"], 1)
        self.assert_refused(["rules 5 6 2 3", "wing w = a", "door a"], 1)
        self.assert_refused(["rules 5 6 2 3", "key k opens a", "door a"], 1)

    def test_a_door_behind_a_wing_or_key(self):
        self.assert_refused(["rules 5 6 2 3", "door a", "wing w = a", "door b"], 3)
        self.assert_refused(["rules 5 6 2 3", "door a", "key k opens a", "door b"], 3)
        self.assert_refused(["rules 5 6 2 3", "door a", "wing w = a", "key k opens a", "door b"], 4)

    def test_a_wing_behind_a_key(self):
        self.assert_refused(["rules 5 6 2 3", "door a", "key k opens a", "wing w = a"], 3)
        self.assert_refused(["rules 5 6 2 3", "door a", "wing v = a", "key k opens a", "wing w = a"], 4)
        self.assert_refused(["rules 5 6 2 3", "door a", "key k opens a", "wing w = a", "door b"], 3)

    def test_the_sixty_first_door(self):
        self.assert_refused(rows_of(61, 0, 0), 61)
        self.assert_refused(rows_of(61, 1, 1), 61)
        self.assert_refused(rows_of(70, 0, 0), 61)

    def test_the_sixty_first_wing(self):
        self.assert_refused(rows_of(1, 61, 0), 62)
        self.assert_refused(rows_of(60, 61, 1), 121)

    def test_the_sixty_first_key(self):
        self.assert_refused(rows_of(1, 0, 61), 62)
        self.assert_refused(rows_of(60, 60, 61), 181)
        self.assert_refused(rows_of(1, 0, 61) + ["nothing"], 62)

    def test_the_sixtieth_stands(self):
        for many in [(60, 0, 0), (1, 60, 0), (1, 0, 60)]:
            text = "\n".join(rows_of(*many))
            self.assertEqual(shown_house(read_house(text)), text)


class HandedIn(unittest.TestCase):
    def test_lists_stay_as_they_were(self):
        handed = [["b", "a"], [("w", ["b", "a"])], [("k", ["w", "a"])]]
        before = copy.deepcopy(handed)
        house = House((1, 2, 1, 1), *handed)
        shown_house(house)
        self.assertEqual(handed, before)
        self.assertEqual([house.doors, house.wings, house.grants], before)

    def test_what_is_done_to_a_house_does_not_change_the_lists(self):
        handed = [["b", "a"], [("w", ["b", "a"])], [("k", ["w", "a"])]]
        before = copy.deepcopy(handed)
        house = House((1, 2, 1, 1), *handed)
        house.doors.append("c")
        house.wings[0][1].append("c")
        house.grants[0][1].append("c")
        house.wings.append(("v", ["a"]))
        house.grants.append(("l", ["a"]))
        self.assertEqual(handed, before)

    def test_houses_read_of_one_text_are_apart(self):
        first = read_house(TEXT)
        first.doors.append("gate")
        first.wings[0][1].append("gate")
        first.wings.append(("more", ["gate"]))
        first.grants[0][1].append("gate")
        first.grants.append(("carl", ["gate"]))
        self.assertEqual(shown_house(read_house(TEXT)), TEXT)

    def test_showing_changes_nothing(self):
        house = read_house(TEXT)
        self.assertEqual(shown_house(house), shown_house(house))
        self.assertEqual(vars(house), vars(read_house(TEXT)))


if __name__ == "__main__":
    unittest.main()
