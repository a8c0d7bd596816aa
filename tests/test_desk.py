import itertools
import unittest

from tests.things import NO_NUMBERS, NO_TEXTS, Asker, first_free_at
from wardsmith.cuts import shown_cuts
from wardsmith.desk import Desk
from wardsmith.errors import (NoCuts, NoPlan, NoRow, NoSay, NoSuch, NoTower, Ring, Shared, SmithError, Steep, TooFlat,
                              TooNarrow, Twice, Unknown, Wrong)
from wardsmith.houses import shown_house

TEXT = """rules 3 6 2 5
door front
door cellar
door attic
door shed
wing below = cellar
wing all = attic below front
key anna opens all
key bert opens below front
key carl opens cellar"""

DOORS = ["front", "cellar", "attic", "shed"]
WINGS = ["below", "all"]
KEYS = ["anna", "bert", "carl"]

# Each kind of row, as it is told of this house.
ROWS = ["plan", "plan 200", "tower", "key anna 0-0-0", "cuts anna", "barrel front", "fault", "turn front 0-0-0",
        "who front", "strays front", "stray cellar 0", "lost anna", "lost anna bert", "anew anna", "doors all",
        "holders front"]

# What is told of the desk's plan; asking changes nothing.
PROBES = ["cuts anna", "cuts bert", "cuts carl", "fault", "barrel front", "barrel cellar", "who cellar", "strays cellar",
          "lost carl", "anew carl"]

# Three keys whose doors lie apart, and cuts for two of them.
NONE = "rules 1 2 1 1\ndoor a\ndoor b\ndoor c\nkey k opens a\nkey l opens b\nkey m opens c"


# By the planner: anna 0-0-0, bert 0-0-1, carl 0-1-0.
def planned():
    desk = Desk(TEXT)
    desk.say("plan")
    return desk


# As anna, bert opens the attic.
def faulty():
    desk = planned()
    desk.say("key bert 0-0-0")
    return desk


def answer(desk, row):
    try:
        return desk.say(row)
    except SmithError as refusal:
        return type(refusal).__name__


def state(desk):
    return [answer(desk, row) for row in PROBES]


class AtTheDesk(Asker):
    def assert_say(self, told, desk, row):
        with self.subTest(row):
            self.assertEqual(repr(desk.say(row)), repr(told))

    # Asked twice: a row that asks changes nothing.
    def assert_asked(self, told, desk, row):
        before = state(desk)
        self.assert_say(told, desk, row)
        self.assert_say(told, desk, row)
        self.assertEqual(state(desk), before)

    def assert_row_refused(self, kind, desk, row, **fields):
        before = state(desk)
        self.assert_refused(kind, fields, desk.say, row)
        self.assertEqual(state(desk), before)


class Making(Asker):
    def test_the_refusals_of_reading(self):
        for text, row in [("", 0), ("rules 3 6 2 5", 1), (TEXT + "\n", 10), (TEXT + "\nkey dora opens", 10),
                          (TEXT.replace("door attic", "door key"), 3), (TEXT.replace("rules 3", "rules 25"), 0),
                          (" " + TEXT, 0), (TEXT.replace("opens all", "opens  all"), 7)]:
            self.assert_refused(NoRow, {"row": row}, Desk, text)

    def test_no_texts(self):
        for thing in NO_TEXTS:
            with self.subTest(repr(thing)):
                with self.assertRaises(NoRow) as taken:
                    Desk(thing)
                self.assertEqual(taken.exception.row, 0)

    def test_the_refusals_of_looking(self):
        self.assert_refused(Twice, {"name": "attic"}, Desk, TEXT.replace("shed", "attic"))
        self.assert_refused(Unknown, {"name": "tower"}, Desk, TEXT.replace("= cellar", "= cellar tower"))
        self.assert_refused(Unknown, {"name": "anna"}, Desk, TEXT.replace("carl opens cellar", "carl opens anna"))
        self.assert_refused(Shared, {"name": "below"}, Desk, TEXT.replace("\nkey anna", "\nwing two = below\nkey anna"))
        self.assert_refused(Ring, {"ring": ["below"]}, Desk, TEXT.replace("= cellar", "= below").replace("attic below",
                                                                                                      "attic"))

    def test_by_the_names_of_its_arguments(self):
        self.assertEqual(Desk(text=TEXT).say(row="doors all"), "front cellar attic")

    def test_two_desks_keep_apart(self):
        one, other = Desk(TEXT), Desk(TEXT)
        one.say("plan")
        self.assertEqual(answer(other, "fault"), "NoPlan")
        other.say("tower")
        self.assertEqual([desk.say("cuts carl") for desk in [one, other]], ["0-1-0", "1-1-1"])


class Plans(AtTheDesk):
    def test_a_plan_is_found(self):
        desk = Desk(TEXT)
        self.assert_say("plan", desk, "plan")
        self.assertEqual([desk.say("cuts " + name) for name in KEYS], ["0-0-0", "0-0-1", "0-1-0"])
        self.assert_say("-", desk, "fault")

    def test_most(self):
        # The planner makes two trials for bert, and seven for carl.
        for most, told in [("0", "more"), ("1", "more"), ("9", "more"), ("10", "plan"), ("11", "plan"), ("2000", "plan")]:
            desk = Desk(TEXT)
            self.assert_say(told, desk, "plan " + most)
            self.assertEqual(answer(desk, "cuts carl"), "0-1-0" if told == "plan" else "NoPlan")

    def test_most_left_out_is_200(self):
        # The n-th key of the nineteen doors asks for n trials, each further key of the first door for one.
        doors = "abcdefghijklmnopqrs"
        for further, told in [(9, "plan"), (10, "plan"), (11, "more")]:
            rows = ["rules 1 20 20 19"] + ["door " + door for door in doors]
            rows += [f"key k{door} opens {door}" for door in doors]
            rows += [f"key x{letter} opens a" for letter in doors[:further]]
            self.assert_say(told, Desk("\n".join(rows)), "plan")
            self.assert_say("plan", Desk("\n".join(rows)), f"plan {190 + further}")
            self.assert_say("more", Desk("\n".join(rows)), f"plan {189 + further}")

    def test_no_plan_is_found(self):
        desk = Desk(NONE)
        self.assert_say("none", desk, "plan")
        self.assert_say("none", desk, "plan 2000")
        self.assert_say("more", desk, "plan 3")
        self.assertEqual(answer(desk, "fault"), "NoPlan")

    def test_where_none_is_found_the_desk_keeps_its_plan(self):
        desk = planned()
        desk.say("key carl 5-5-0")
        before = state(desk)
        self.assert_say("more", desk, "plan 3")
        self.assert_say("more", desk, "plan 0")
        self.assertEqual(state(desk), before)
        self.assert_say("plan", desk, "plan")
        self.assertNotEqual(state(desk), before)
        self.assertEqual(state(desk), state(planned()))

    def test_a_house_without_keys(self):
        desk = Desk("rules 2 3 1 2\ndoor a\ndoor b\nwing w = b a")
        self.assertEqual(answer(desk, "fault"), "NoPlan")
        self.assert_say("plan", desk, "plan 0")
        for row, told in [("fault", "-"), ("barrel a", "-"), ("who a", "-"), ("turn a 0-1", "bolted"), ("strays a", "0"),
                          ("stray a 0", "NoSuch"), ("doors w", "a b"), ("holders a", "-"), ("turn a 0-3", "NoCuts"),
                          ("lost", "NoSay"), ("tower", "plan")]:
            self.assertEqual(answer(desk, row), told, row)

    def test_wrong_numbers(self):
        for desk in [Desk(TEXT), planned()]:
            for word in NO_NUMBERS:
                if word not in ["1000", "9999"]:
                    self.assert_row_refused(NoSay, desk, "plan " + word)
            for word in ["2001", "9999", "9" * 60, "1" + "0" * 60, "9" * 61, "02000", "0" * 60, "200 200", "-", "all"]:
                self.assert_row_refused(NoSay, desk, "plan " + word)
        self.assert_say("plan", Desk(TEXT), "plan 1000")


class Towers(AtTheDesk):
    def test_a_plan(self):
        for desk in [Desk(TEXT), planned(), faulty()]:
            self.assert_say("plan", desk, "tower")
            self.assertEqual([desk.say("cuts " + name) for name in KEYS], ["1-0-0", "1-1-0", "1-1-1"])

    def assert_no_tower(self, kind, text, **fields):
        desk = Desk(text)
        self.assert_refused(kind, fields, desk.say, "tower")
        self.assertEqual(answer(desk, "fault"), "NoPlan")
        self.assertEqual(desk.say("plan 2000"), "plan")
        before = state(desk)
        self.assert_refused(kind, fields, desk.say, "tower")
        self.assertEqual(state(desk), before)

    def test_houses_that_have_none(self):
        self.assert_no_tower(NoTower, TEXT.replace("rules 3 6 2 5", "rules 3 6 2 4"), one=None, other=None)
        self.assert_no_tower(NoTower, TEXT.replace("carl opens cellar", "carl opens cellar shed"), one="anna",
                             other="carl")
        self.assert_no_tower(TooNarrow, TEXT.replace("rules 3 6 2 5", "rules 2 6 2 5"), need=3)
        self.assert_no_tower(TooFlat, "rules 2 2 1 1\ndoor a\ndoor b\nkey k opens a\nkey l opens b")


class NewCuts(AtTheDesk):
    def test_ordinary(self):
        desk = planned()
        self.assert_say("ok", desk, "key carl 5-0-1")
        self.assert_say("5-0-1", desk, "cuts carl")
        self.assert_say("0,5 0 0,1", desk, "barrel cellar")
        self.assertEqual([desk.say("cuts " + name) for name in ["anna", "bert"]], ["0-0-0", "0-0-1"])
        self.assert_say("ok", desk, "key carl 5-0-1")
        self.assert_say("ok", desk, "key bert 0-0-1")
        self.assert_say("ok", desk, "key anna 0-0-0")
        self.assert_say("5-0-1", desk, "cuts carl")

    def test_cuts_that_make_a_fault(self):
        desk = planned()
        self.assert_say("ok", desk, "key bert 0-0-0")
        self.assert_say("attic bert anna anna anna", desk, "fault")
        self.assert_say("ok", desk, "key bert 0-0-1")
        self.assertEqual(state(desk), state(planned()))

    def test_without_a_plan(self):
        for row in ["key anna 0-0-0", "key anna ", "key anna 9-9-9", "key anna anna"]:
            self.assert_row_refused(NoPlan, Desk(TEXT), row)

    def test_cuts_that_are_none(self):
        for word in ["", "0", "0-0", "0-0-0-0", "0-0-6", "0-0-", "-0-0", "00-0-0", "0-0-01", "0,0,0", "x", "anna", "-",
                     "0-0-0\n", "0-0-0\t", "0\n0", "none", "0--0", "0-0--1", "\u0661-0-0"]:
            for desk in [planned(), faulty()]:
                self.assert_row_refused(NoCuts, desk, "key anna " + word)
                self.assert_row_refused(NoCuts, desk, "turn front " + word)

    def test_cuts_by_the_step(self):
        desk = Desk(TEXT.replace("rules 3 6 2 5", "rules 3 6 2 2"))
        desk.say("plan")
        self.assert_row_refused(NoCuts, desk, "key carl 0-3-0")
        self.assert_row_refused(NoCuts, desk, "turn shed 0-3-0")
        self.assert_say("ok", desk, "key carl 0-2-0")

    def test_a_barrel_that_would_be_too_high(self):
        desk = planned()
        self.assert_row_refused(Steep, desk, "key carl 0-1-2", door="cellar", place=2)
        self.assert_row_refused(Steep, desk, "key carl 0-0-5", door="cellar", place=2)
        self.assert_row_refused(Steep, desk, "key bert 0-2-2", door="cellar", place=1)
        desk.say("key bert 3-0-0")
        self.assert_row_refused(Steep, desk, "key carl 1-1-1", door="cellar", place=0)

    def test_of_two_the_first_door_and_place(self):
        desk = Desk("rules 2 4 2 3\ndoor b\ndoor a\nkey k opens a b\nkey l opens b a\nkey m opens a b")
        desk.say("plan")
        self.assertEqual([desk.say("key k 0-0"), desk.say("key l 0-1")], ["ok", "ok"])
        self.assert_refused(Steep, {"door": "b", "place": 1}, desk.say, "key m 1-2")
        self.assertEqual(desk.say("key l 1-1"), "ok")
        self.assert_refused(Steep, {"door": "b", "place": 0}, desk.say, "key m 2-2")
        self.assertEqual([desk.say("cuts " + name) for name in "klm"], ["0-0", "1-1", "0-0"])


class Asking(AtTheDesk):
    def test_cuts(self):
        for name, told in zip(KEYS, ["0-0-0", "0-0-1", "0-1-0"]):
            self.assert_asked(told, planned(), "cuts " + name)

    def test_barrels(self):
        for door, told in zip(DOORS, ["0 0 0,1", "0 0,1 0,1", "0 0 0", "-"]):
            self.assert_asked(told, planned(), "barrel " + door)

    def test_faults(self):
        self.assert_asked("-", planned(), "fault")
        self.assert_asked("attic bert anna anna anna", faulty(), "fault")
        desk = Desk("rules 2 4 2 3\ndoor a\ndoor b\nkey k opens a\nkey l opens a\nkey m opens b")
        desk.say("plan")
        for row in ["key k 0-0", "key l 1-1", "key m 1-0"]:
            desk.say(row)
        self.assertEqual(desk.say("fault"), "a m l k")

    def test_turns(self):
        desk = planned()
        for row, told in [("front 0-0-0", "open"), ("front 0-0-1", "open"), ("front 0-0-2", "2"), ("front 0-1-0", "1"),
                          ("front 1-0-0", "0"), ("front 5-5-5", "0"), ("cellar 0-1-1", "open"), ("cellar 0-2-2", "1"),
                          ("attic 0-0-1", "2"), ("shed 0-0-0", "bolted"), ("shed 5-5-5", "bolted")]:
            self.assert_asked(told, desk, "turn " + row)

    def test_who(self):
        for door, told in zip(DOORS, ["anna bert", "anna bert carl", "anna", "-"]):
            self.assert_asked(told, planned(), "who " + door)
        # Who opens a door need not be its holder, and comes in the house's order.
        self.assert_asked("anna bert", faulty(), "who attic")
        desk = planned()
        desk.say("key carl 0-0-0")
        self.assert_asked("anna carl", desk, "who attic")

    def test_strays(self):
        for door, told in zip(DOORS, ["0", "1", "0", "0"]):
            self.assert_asked(told, planned(), "strays " + door)
        desk = planned()
        desk.say("key carl 5-5-0")
        self.assert_asked("5", desk, "strays cellar")
        for number, told in enumerate(["0-5-0", "0-5-1", "5-0-0", "5-0-1", "5-5-1"]):
            self.assert_asked(told, desk, f"stray cellar {number}")

    def test_a_stray_that_is_not_there(self):
        desk = planned()
        self.assert_asked("0-1-1", desk, "stray cellar 0")
        for row in ["cellar 1", "cellar 2", "cellar " + "9" * 60, "front 0", "shed 0", "shed 7"]:
            self.assert_row_refused(NoSuch, desk, "stray " + row)

    def test_wrong_numbers_of_strays(self):
        for desk in [Desk(TEXT), planned()]:
            for word in [word for word in NO_NUMBERS if word not in ["1000", "9999"]]:
                self.assert_row_refused(NoSay, desk, "stray cellar " + word)
            for word in ["9" * 61, "1" + "0" * 60, "0" * 60, "00", "0 0", "-"]:
                self.assert_row_refused(NoSay, desk, "stray cellar " + word)

    def test_many_strays(self):
        keys = "abcdefghijklmnopqrst"
        desk = Desk("rules 24 20 20 19\ndoor front" + "".join(f"\nkey {name} opens front" for name in keys))
        desk.say("plan")
        for depth, name in enumerate(keys):
            desk.say(f"key {name} " + "-".join([str(depth)] * 24))
        self.assertEqual(desk.say("strays front"), str(20 ** 24 - 20))
        self.assertEqual(desk.say(f"stray front {20 ** 24 - 21}"), "-".join(["19"] * 23 + ["18"]))
        self.assertEqual(answer(desk, f"stray front {20 ** 24 - 20}"), "NoSuch")

    def test_without_a_plan(self):
        for row in ROWS:
            if row.split(" ")[0] not in ["plan", "tower", "doors", "holders"]:
                self.assert_row_refused(NoPlan, Desk(TEXT), row)


class OfTheHouse(AtTheDesk):
    def test_doors(self):
        told = {"front": "front", "cellar": "cellar", "shed": "shed", "below": "cellar", "all": "front cellar attic",
                "anna": "front cellar attic", "bert": "front cellar", "carl": "cellar"}
        for desk in [Desk(TEXT), planned(), faulty()]:
            for name, doors in told.items():
                self.assert_asked(doors, desk, "doors " + name)

    def test_holders(self):
        for desk in [Desk(TEXT), planned(), faulty()]:
            for door, told in zip(DOORS, ["anna bert", "anna bert carl", "anna", "-"]):
                self.assert_asked(told, desk, "holders " + door)


class Losing(AtTheDesk):
    def test_one_key(self):
        self.assert_asked("pinned cellar", planned(), "lost carl")
        self.assert_asked("stray cellar anna bert bert carl", planned(), "lost anna")
        self.assert_asked("pinned front cellar", planned(), "lost bert")

    def test_several_keys(self):
        for names in itertools.permutations(["carl", "bert"]):
            self.assert_asked("pinned front cellar", planned(), "lost " + " ".join(names))
        for names in itertools.permutations(KEYS):
            self.assert_asked("pinned front cellar attic", planned(), "lost " + " ".join(names))

    def test_a_key_lost_twice_and_none(self):
        for desk in [Desk(TEXT), planned(), faulty()]:
            for row in ["lost", "lost ", "lost carl carl", "lost carl bert carl", "lost  carl", "lost carl ",
                        "lost carl dora", "lost front", "lost all", "lost carl front", "lost -"]:
                self.assert_row_refused(NoSay, desk, row)

    def test_anew(self):
        self.assert_asked("0-2-0", planned(), "anew carl")
        desk = Desk("rules 1 2 1 1\ndoor a\ndoor b\nkey k opens a\nkey l opens b")
        desk.say("plan")
        self.assertEqual([desk.say("anew k"), desk.say("anew l")], ["none", "none"])

    def test_anew_looks_at_200(self):
        for needed in [199, 200, 201]:
            house, plan, one = first_free_at(needed)
            desk = Desk(shown_house(house))
            desk.say("plan")
            for name, cuts in plan.items():
                self.assertEqual(desk.say(f"key {name} {shown_cuts(cuts)}"), "ok")
            self.assert_say(shown_cuts(one) if needed <= 200 else "more", desk, "anew k")

    def test_a_plan_with_a_fault(self):
        for row in ["lost carl", "lost anna bert carl", "anew carl", "anew bert"]:
            self.assert_row_refused(Wrong, faulty(), row)

    def test_a_plan_that_has_a_fault_no_longer(self):
        desk = faulty()
        desk.say("key bert 0-0-1")
        self.assert_asked("pinned cellar", desk, "lost carl")
        self.assert_asked("0-2-0", desk, "anew carl")


class NoSays(AtTheDesk):
    def assert_no_say(self, *rows):
        for desk in [Desk(TEXT), planned(), faulty()]:
            for row in rows:
                self.assert_row_refused(NoSay, desk, row)

    def test_no_words_and_other_words(self):
        self.assert_no_say("", " ", "\n", "-", "plans", "Plan", "PLAN", "towers", "open front", "opens front", "door front",
                           "wing all", "rules", "names all", "front", "anna", "keys anna 0-0-0", "help", "faults",
                           "cut anna", "barrels front", "loss carl", "holder front")

    def test_what_is_no_text(self):
        for desk in [Desk(TEXT), planned()]:
            before = state(desk)
            for thing in NO_TEXTS + [["plan"], ("fault",), b"plan"]:
                with self.subTest(repr(thing)):
                    with self.assertRaises(SmithError) as taken:
                        desk.say(thing)
                    self.assertIs(type(taken.exception), NoSay)
            self.assertEqual(state(desk), before)

    def test_a_word_too_few(self):
        self.assert_no_say("key", "key anna", "cuts", "barrel", "turn", "turn front", "who", "strays", "stray",
                           "stray front", "lost", "anew", "doors", "holders", "key 0-0-0", "turn 0-0-0", "stray 0")

    def test_a_word_too_many(self):
        self.assert_no_say("plan 200 200", "tower 1", "tower anna", "key anna 0-0-0 0-0-0", "key anna 0-0-0 bert 0-0-1",
                           "cuts anna bert", "cuts anna 0-0-0", "barrel front cellar", "fault front", "fault 0",
                           "turn front 0-0-0 0-0-0", "turn front cellar 0-0-0", "who front cellar", "strays front 0",
                           "stray front 0 0", "anew carl 200", "anew carl bert", "doors all below", "holders front shed")

    def test_a_blank_more(self):
        for row in ROWS:
            self.assert_no_say(" " + row, row + " ", row.replace(" ", "  ", 1) if " " in row else row + "  ")
            for place in [place for place, sign in enumerate(row) if sign == " "]:
                wider = row[:place] + "  " + row[place + 1:]
                self.assert_no_say(wider, row[:place] + "\t" + row[place + 1:], row[:place] + "\n" + row[place + 1:])

    def test_cuts_are_one_word(self):
        self.assert_no_say("key anna  ", "key anna 0 0", "turn front  ", "turn front 0 0 0", "key  ", "turn  ", "key ",
                           "turn ", "key anna 0-0-0 ", "turn front 0-0-0 ", "key anna  0-0-0")

    def test_names_that_the_house_has_not(self):
        for name in ["dora", "x", "", "-", "0", "Anna", "front\n", "abcdefghijkl", "key", "door", "0-0-0", "annaanna"]:
            self.assert_no_say(f"key {name} 0-0-0", "cuts " + name, "barrel " + name, f"turn {name} 0-0-0", "who " + name,
                               "strays " + name, f"stray {name} 0", "lost " + name, "lost anna " + name, "anew " + name,
                               "doors " + name, "holders " + name)

    def test_names_that_the_house_has_as_something_else(self):
        for name in DOORS + WINGS:
            self.assert_no_say(f"key {name} 0-0-0", "cuts " + name, "lost " + name, "lost anna " + name, "anew " + name)
        for name in KEYS + WINGS:
            self.assert_no_say("barrel " + name, f"turn {name} 0-0-0", "who " + name, "strays " + name, f"stray {name} 0",
                               "holders " + name)


class TwoAtOnce(AtTheDesk):
    def test_no_say_comes_first(self):
        for desk in [Desk(TEXT), planned(), faulty()]:
            for row in ["key dora 9-9-9", "turn all 9-9-9", "lost dora", "stray cellar 01", "stray all 99", "anew front",
                        "key front ", "turn shed 0-0-6 0", "lost bert bert"]:
                self.assert_row_refused(NoSay, desk, row)

    def test_then_no_plan(self):
        for row in ["key anna 9-9-9", "key anna ", "turn front 9-9-9", "turn shed ", "stray shed 0", "stray front 99",
                    "lost anna", "anew anna"]:
            self.assert_row_refused(NoPlan, Desk(TEXT), row)

    def test_no_cuts_at_a_bolted_door(self):
        for desk in [planned(), faulty()]:
            for word in ["", "9-9-9", "0-0", "0-0-6", "x", "bolted"]:
                self.assert_row_refused(NoCuts, desk, "turn shed " + word)

    def test_no_cuts_ahead_of_steep(self):
        # The first numbers alone would be too high.
        for word in ["0-1-2-0", "5-5-9", "0-1-02"]:
            self.assert_row_refused(NoCuts, planned(), "key carl " + word)

    def test_cuts_without_signs(self):
        for desk, kind in [(Desk(TEXT), NoPlan), (planned(), NoCuts), (faulty(), NoCuts)]:
            for row in ["key anna ", "turn front ", "turn shed "]:
                self.assert_row_refused(kind, desk, row)

    def test_a_refused_row_changes_nothing(self):
        rows = ["key carl 9-9-9", "key dora 0-0-0", "plan 2001", "lost carl carl", "stray front 5", "",
                "turn shed x"]
        for desk in [Desk(TEXT), planned(), faulty()]:
            before = state(desk)
            for row in rows:
                with self.assertRaises(SmithError):
                    desk.say(row)
                self.assertEqual(state(desk), before)


# Names that are words of the desk's rows, and of its answers.
WORDS_TEXT = """rules 3 6 2 5
door turn
door barrel
door fault
wing plan = fault
wing tower = turn plan
key lost opens tower
key cuts opens turn
key ok opens barrel
key none opens barrel"""


class NamesThatAreWords(AtTheDesk):
    def test_each_row(self):
        desk = Desk(WORDS_TEXT)
        for row, told in [("doors plan", "fault"), ("doors tower", "turn fault"), ("doors lost", "turn fault"),
                          ("holders turn", "lost cuts"), ("holders fault", "lost"), ("plan", "plan"),
                          ("cuts lost", "0-0-0"), ("cuts cuts", "0-0-1"), ("cuts ok", "0-0-2"), ("cuts none", "0-0-2"),
                          ("barrel barrel", "0 0 2"), ("barrel fault", "0 0 0"), ("turn turn 0-0-1", "open"),
                          ("turn fault 0-0-1", "2"), ("who turn", "lost cuts"), ("strays turn", "0"), ("fault", "-"),
                          ("lost lost", "pinned turn fault"), ("lost cuts lost", "pinned turn fault"),
                          ("lost ok", "stray barrel ok none none none"), ("anew ok", "more"), ("key cuts 0-0-0", "ok"),
                          ("fault", "fault cuts lost lost lost"), ("lost plan", "NoSay"), ("lost lost lost", "NoSay"),
                          ("plan plan", "NoSay"), ("tower tower", "NoSay"), ("fault fault", "NoSay"),
                          ("doors doors", "NoSay"), ("anew lost", "Wrong"), ("plan 4", "more"), ("plan 2000", "plan"),
                          ("key none 5-5-5", "ok"), ("lost none", "pinned barrel"), ("tower", "NoTower")]:
            self.assertEqual(answer(desk, row), told, row)
