"""All short rows of the desk, told to it and to a model that follows the document's words."""

import itertools
import re
import unittest

from tests.things import all_cuts, fits, least, owners, walked_anew, walked_loss, word_of
from wardsmith.desk import Desk
from wardsmith.errors import NoTower, SmithError
from wardsmith.houses import read_house
from wardsmith.planner import plan_for
from wardsmith.towers import tower_plan

# The keys l and m have the same doors, so that this is no tower.
TEXT = """rules 2 3 2 2
door b
door a
door c
wing w = c a
key l opens a
key k opens b a
key m opens a"""

TOWER = TEXT.replace("key m opens a", "key m opens b")

DOOR, KEY, NUMBER, WORD = "(a|b|c)", "(k|l|m)", "(0|[1-9][0-9]{0,59})", "([^ ]*)"

FORMS = {"plan": f"plan(?: {NUMBER})?", "tower": "tower", "key": f"key {KEY} {WORD}", "cuts": f"cuts {KEY}",
         "barrel": f"barrel {DOOR}", "fault": "fault", "turn": f"turn {DOOR} {WORD}", "who": f"who {DOOR}",
         "strays": f"strays {DOOR}", "stray": f"stray {DOOR} {NUMBER}", "lost": f"lost(?: {KEY})+",
         "anew": f"anew {KEY}", "doors": "doors (a|b|c|w|k|l|m)", "holders": f"holders {DOOR}"}


def shown(one):
    return "-".join(map(str, one))


def listed(names):
    return " ".join(names) or "-"


class Model:
    def __init__(self, text):
        self.house = read_house(text)
        self.keys = [name for name, _ in self.house.grants]
        self.plan = None

    # The answer, or the name of the refusal's class.
    def told(self, row):
        kind, *words = row.split(" ")
        if not re.fullmatch(FORMS.get(kind, "none of these"), row) or kind == "plan" and words and int(words[0]) > 2000 \
                or kind == "lost" and len(set(words)) < len(words):
            return "NoSay"
        if self.plan is None and kind not in ["plan", "tower", "doors", "holders"]:
            return "NoPlan"
        if kind in ["lost", "anew"] and word_of(self.house, self.plan)[0] == "open":
            return "Wrong"
        if kind in ["key", "turn"] and words[1] not in map(shown, all_cuts(self.house.rules)):
            return "NoCuts"
        return getattr(self, "at_" + kind)(*words)

    def at_plan(self, most="200"):
        word, found, _ = plan_for(self.house, int(most))
        self.plan = found if word == "plan" else self.plan
        return word

    def at_tower(self):
        try:
            self.plan = tower_plan(self.house)
        except NoTower:
            return "NoTower"
        return "plan"

    def at_key(self, name, word):
        other = self.plan | {name: tuple(map(int, word.split("-")))}
        if word_of(self.house, other)[0] == "steep":
            return "Steep"
        self.plan = other
        return "ok"

    def at_cuts(self, name):
        return shown(self.plan[name])

    def barrel(self, door):
        return least([self.plan[name] for name in owners(self.house, door)])

    def at_barrel(self, door):
        return " ".join(",".join(map(str, pin)) for pin in self.barrel(door) or []) or "-"

    def at_fault(self):
        why = word_of(self.house, self.plan)[1]
        return "-" if why is None else " ".join([why[0], why[1]] + why[2])

    def at_turn(self, door, word):
        if self.barrel(door) is None:
            return "bolted"
        cuts = map(int, word.split("-"))
        stops = [str(place) for place, (pin, cut) in enumerate(zip(self.barrel(door), cuts)) if cut not in pin]
        return (stops + ["open"])[0]

    def at_who(self, door):
        return listed([name for name in self.keys if self.barrel(door) and fits(self.barrel(door), self.plan[name])])

    def strays(self, door):
        taken = [self.plan[name] for name in owners(self.house, door)]
        return [one for one in all_cuts(self.house.rules) if taken and fits(least(taken), one) and one not in taken]

    def at_strays(self, door):
        return str(len(self.strays(door)))

    def at_stray(self, door, number):
        return ([shown(one) for one in self.strays(door)] + ["NoSuch"])[min(int(number), len(self.strays(door)))]

    def at_lost(self, *names):
        told = walked_loss(self.house, self.plan, names)
        return " ".join(["pinned"] + list(told[1]) if told[0] == "pinned" else list(told[:3]) + told[3])

    def at_anew(self, name):
        word, one = walked_anew(self.house, self.plan, name, 200)
        return shown(one) if word == "cuts" else word

    def at_doors(self, name):
        opened = dict(self.house.wings + self.house.grants).get(name, [name])
        return listed([door for door in self.house.doors if door in opened])

    def at_holders(self, door):
        return listed(owners(self.house, door))


KINDS = ["cuts", "barrel", "fault", "key", "turn", "who", "strays", "stray", "lost", "anew", "doors", "holders", "plan",
         "tower", "door", ""]
WORDS = ["a", "b", "c", "w", "k", "l", "m", "x", "0", "1", "5", "01", "2000", "2001", "0-0", "0-1", "1-1", "2-0", "0-3", ""]

# What a row may change is told by these.
PROBES = ["cuts k", "cuts l", "cuts m", "fault", "strays a"]


def all_rows():
    yield from ["fault", "lost k", "turn c 0-0", "turn c 0-3", "key k 0-0"]
    for words in itertools.product(WORDS, repeat=2):
        for kind in KINDS:
            yield " ".join([kind, *words])
        # Now and again, so that rows meet many plans.
        yield f"key k {words[0]}"
        yield f"key l {words[1]}"
    for word in WORDS:
        for kind in KINDS:
            yield f"{kind} {word}"
    yield from KINDS
    for words in itertools.product(["k", "l", "m", "a", ""], repeat=3):
        yield "lost " + " ".join(words)


def answer(desk, row):
    try:
        return desk.say(row)
    except SmithError as refusal:
        return type(refusal).__name__


class AllShortRows(unittest.TestCase):
    def assert_alike(self, text, starts, words):
        desk, model = Desk(text), Model(text)
        told = set()
        for row in starts + list(all_rows()):
            for said in [row] + PROBES:
                answered = model.told(said)
                self.assertEqual(answer(desk, said), answered, said)
                told.add(answered.split(" ")[0])
        self.assertEqual(sorted(set(words.split(" ")) - told), [])
        return told

    def test_without_a_plan_at_first(self):
        self.assert_alike(TEXT, [], "NoSay NoPlan NoTower plan more pinned -")

    def test_from_a_plan_on(self):
        told = self.assert_alike(TEXT, ["plan"], "NoSay Wrong NoCuts NoSuch NoTower Steep plan more ok open bolted 1 -")
        self.assertNotIn("NoPlan", told)

    def test_from_a_tower_on(self):
        told = self.assert_alike(TOWER, ["tower"], "NoSay Wrong NoCuts NoSuch plan more ok open bolted 1 -")
        self.assertNotIn("NoPlan", told)

    def test_lost_keys_of_many_plans(self):
        desk, model = Desk(TEXT), Model(TEXT)
        told = set()
        for row in ["plan"] + [f"key {name} {shown(one)}" for one in all_cuts(model.house.rules) for name in "kml"]:
            self.assertEqual(answer(desk, row), model.told(row), row)
            for asked in ["lost k", "lost l", "lost m", "lost m k", "lost l m", "anew k", "anew l", "anew m"]:
                answered = model.told(asked)
                self.assertEqual(answer(desk, asked), answered, asked)
                told.add(answered.split(" ")[0])
        self.assertEqual(sorted({"Wrong", "pinned", "stray", "none"} - told), [])


if __name__ == "__main__":
    unittest.main()
