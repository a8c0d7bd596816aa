"""What is promised over the whole program: its interface, that told things are the asker's own, and the way from a house
to its plan, to the house behind lost keys, and to the rows of the bench that lead there."""

import importlib
import inspect
import unittest

from tests.things import Asker, all_houses, all_plans, fits, owners, shown_all, spoil, word_of
from wardsmith.barrels import cross_of, least_of
from wardsmith.bench import Bench, rows_to
from wardsmith.counts import ahead_of, count_of, filed_count, nth_of
from wardsmith.cuts import first_cuts, next_cuts
from wardsmith.deeds import read_deed
from wardsmith.desk import Desk
from wardsmith.errors import SmithError
from wardsmith.houses import read_house, shown_house
from wardsmith.looks import doors_of, holders, look_at
from wardsmith.losing import cut_anew, loss_of
from wardsmith.planner import plan_for, trial_of
from wardsmith.plans import barrels_of, fault_of
from wardsmith.rules import read_rules
from wardsmith.strays import stray_at, strays_of
from wardsmith.towers import elder_of, levels_of, tower_plan

INTERFACE = """
words: is_whole(thing) is_name(thing)
rules: is_rules(thing) read_rules(text) shown_rules(rules)
cuts: is_cuts(rules,thing) read_cuts(rules,text) shown_cuts(one) first_cuts(rules) next_cuts(rules,one)
cuts: can_file(one,other)
barrels: is_barrel(rules,thing) read_barrel(rules,text) shown_barrel(barrel) opens_at(barrel,one)
barrels: stopped_at(barrel,one) least_of(rules,some) lies_within(barrel,wider) cross_of(some,one)
counts: count_of(rules,barrel) ahead_of(rules,barrel,one) nth_of(rules,barrel,n=0) filed_count(rules,barrel,one)
houses: House(rules,doors,wings,grants) read_house(text) shown_house(house)
looks: look_at(house) doors_of(house,name) holders(house,door)
plans: barrels_of(house,plan) fault_of(house,plan)
strays: strays_of(house,plan,door) stray_at(house,plan,door,n=0)
planner: trial_of(house,plan) plan_for(house,most=200)
towers: levels_of(house) elder_of(house,name) tower_plan(house)
losing: loss_of(house,plan,names) cut_anew(house,plan,name,most=200)
deeds: Deed() Blank(key) File(key,place,depth) Pin(door,place,heights) Bolt(door) Open(door) read_deed(rules,text)
deeds: Blank.shown(self) File.shown(self) Pin.shown(self) Bolt.shown(self) Open.shown(self)
bench: Bench(rules,keys,barrels) Bench.do(self,row) Bench.keys_now(self) Bench.barrels_now(self)
bench: rows_to(rules,keys,barrels,other_keys,other_barrels)
desk: Desk(text) Desk.say(self,row)
"""

# Rules, doors and keys of which all houses and all their right plans are walked.
SMALL = [((1, 3, 2, 2), 2, 2), ((2, 2, 2, 1), 2, 2), ((2, 2, 2, 1), 1, 3), ((2, 3, 2, 1), 2, 2), ((3, 2, 1, 1), 2, 2)]


class Interface(unittest.TestCase):
    def test_names_and_arguments(self):
        for row in INTERFACE.strip().split("\n"):
            module, shapes = row.split(": ")
            for shape in shapes.split(" "):
                thing = importlib.import_module("wardsmith." + module)
                for name in shape.split("(")[0].split("."):
                    thing = getattr(thing, name)
                told = str(inspect.signature(thing)).replace(" ", "")
                self.assertEqual(shape.split("(")[0] + told, shape)


TOWER = """rules 3 6 2 5
door front
door cellar
door attic
door shed
wing below = cellar
wing all = attic below front
key anna opens all
key bert opens below front
key carl opens cellar"""

PLAN = {"anna": (0, 0, 0), "bert": (0, 0, 1), "carl": (0, 1, 0)}
BARREL = ((0,), (0, 1), (0, 1))


# Each way to ask for something, made of things that are made once.
def all_asks():
    house, plan, rules = read_house(TOWER), dict(PLAN), (3, 6, 2, 5)
    fault = dict(PLAN, bert=(0, 0, 0))
    bench = Bench(rules, plan, barrels_of(house, plan))
    other = barrels_of(house, plan) | {"attic": None, "front": BARREL}
    desk = Desk(TOWER)
    desk.say("plan")
    some = list(plan.values())
    asks = [(read_rules, "3 6 2 5"), (first_cuts, rules), (next_cuts, rules, (0, 0, 5)), (least_of, rules, some),
            (cross_of, some, (0, 1, 1)), (count_of, rules, BARREL), (ahead_of, rules, BARREL, (0, 1, 0)),
            (nth_of, rules, BARREL, 3), (filed_count, rules, BARREL, (0, 0, 1)), (shown_house, house), (look_at, house),
            (doors_of, house, "all"), (doors_of, house, "front"), (holders, house, "cellar"), (barrels_of, house, plan),
            (fault_of, house, plan), (fault_of, house, fault), (strays_of, house, plan, "cellar"),
            (stray_at, house, plan, "cellar"), (trial_of, house, fault), (plan_for, house), (plan_for, house, 3),
            (levels_of, house), (elder_of, house, "carl"), (tower_plan, house), (loss_of, house, plan, ["carl", "bert"]),
            (loss_of, house, plan, ["anna"]), (cut_anew, house, plan, "carl"), (bench.keys_now,), (bench.barrels_now,),
            (rows_to, rules, plan, barrels_of(house, plan), PLAN | {"carl": (1, 0, 0)}, other)]
    fields = [(lambda: vars(read_house(TOWER)),), (lambda: vars(read_deed(rules, "pin front 0 0,5")),)]
    says = [(desk.say, row) for row in ["fault", "cuts anna", "barrel cellar", "lost anna", "anew carl", "doors all"]]
    return asks + fields + says


class OnesOwn(Asker):
    def test_nothing_done_or_asked_later_changes_what_is_told(self):
        asks = all_asks()
        before = shown_all([handed for ask, *rest in asks for handed in rest])
        kept = [ask(*handed) for ask, *handed in asks]
        shown = [repr(told) for told in kept]
        for ask, *handed in asks:
            spoil(ask(*handed))
        self.assertEqual([repr(told) for told in kept], shown)
        spoil(kept)
        self.assertEqual([repr(ask(*handed)) for ask, *handed in asks], shown)
        self.assertEqual(shown_all([handed for ask, *rest in asks for handed in rest]), before)

    def test_what_is_told_is_spoilt_here(self):
        told = plan_for(read_house(TOWER), 3)
        spoil(told)
        self.assertEqual(told, ("more", None, []))


def openers(barrel, plan):
    return [name for name in plan if barrel is not None and fits(barrel, plan[name])]


def right_plans():
    for rules, doors, keys in SMALL:
        for house in all_houses(rules, doors, keys):
            for plan in all_plans(house):
                if word_of(house, plan)[0] == "good":
                    yield house, plan


def lost_keys(house):
    names = [name for name, _ in house.grants]
    return [[name for place, name in enumerate(names) if bits >> place & 1] for bits in range(1, 2 ** len(names))]


class WholeWay(unittest.TestCase):
    def test_of_each_house_it_is_told_whether_there_is_a_plan(self):
        for rules, doors, keys in SMALL:
            for house in all_houses(rules, doors, keys):
                right = [plan for plan in all_plans(house) if word_of(house, plan)[0] == "good"]
                desk = Desk(shown_house(house))
                self.assertEqual(desk.say("plan 2000"), "plan" if right else "none")
                if right:
                    # No right plan is less.
                    self.assertEqual({name: desk.say("cuts " + name) for name in right[0]},
                                     {name: "-".join(map(str, one)) for name, one in right[0].items()})
                    for door in house.doors:
                        self.assertEqual(desk.say("who " + door), " ".join(owners(house, door)) or "-")
                        self.assertEqual(desk.say("holders " + door), " ".join(owners(house, door)) or "-")

    def assert_led(self, rules, before, behind):
        rows = rows_to(rules, before[0], before[1], behind[0], behind[1])
        self.assertEqual(self.behind(rules, before, rows), (before[0] | behind[0], behind[1]))
        for place in range(len(rows)):
            try:
                told = self.behind(rules, before, rows[:place] + rows[place + 1:])
            except SmithError:
                continue
            self.assertNotEqual(told, (before[0] | behind[0], behind[1]))

    def behind(self, rules, before, rows):
        bench = Bench(rules, before[0], before[1])
        for row in rows:
            self.assertEqual(read_deed(rules, row).shown(), row)
            bench.do(row)
        return bench.keys_now(), bench.barrels_now()

    def test_behind_lost_keys(self):
        for house, plan in right_plans():
            barrels = barrels_of(house, plan)
            for names in lost_keys(house):
                told = loss_of(house, plan, names)
                if told[0] == "pinned":
                    behind = barrels | told[1]
                    for door in house.doors:
                        self.assertEqual(openers(behind[door], plan),
                                         [name for name in owners(house, door) if name not in names])
                    kept = {name: plan[name] for name in plan if name not in names}
                    self.assert_led(house.rules, (plan, barrels), (kept, behind))

    def test_behind_keys_cut_anew(self):
        for house, plan in right_plans():
            for name in plan:
                word, one = cut_anew(house, plan, name)
                if word == "cuts":
                    anew = plan | {name: one}
                    barrels = barrels_of(house, anew)
                    self.assertIsNone(fault_of(house, anew))
                    self.assertEqual([door for door in house.doors if openers(barrels[door], {name: plan[name]})], [])
                    self.assert_led(house.rules, (plan, barrels_of(house, plan)), (anew, barrels))

    def test_a_key_can_be_cut_anew_only_where_it_can_be_lost(self):
        for house, plan in right_plans():
            for name in plan:
                if loss_of(house, plan, [name])[0] == "stray":
                    self.assertEqual(cut_anew(house, plan, name), ("none", None))

    def test_a_tower_is_planned_lost_and_cut_anew(self):
        house = read_house(TOWER)
        plan = tower_plan(house)
        self.assertIsNone(fault_of(house, plan))
        empty = {door: None for door in house.doors}
        self.assert_led(house.rules, ({}, empty), (plan, barrels_of(house, plan)))
        self.assert_led(house.rules, (plan, barrels_of(house, plan)), ({}, empty))


class NamesAndNumbers(unittest.TestCase):
    def assert_refused(self, ask, *handed):
        with self.assertRaises(SmithError):
            ask(*handed)

    def test_names_are_of_one_to_twelve_small_letters(self):
        for name in ["a", "z", "abcdefghijkl", "doors", "wings"]:
            desk = Desk(f"rules 1 2 1 1\ndoor x\nkey {name} opens x")
            self.assertEqual([desk.say("plan"), desk.say("cuts " + name)], ["plan", "0"])
            bench = Bench((1, 2, 1, 1), {}, {name: None})
            bench.do("blank " + name)
            bench.do("open " + name)
            self.assertEqual((bench.keys_now(), bench.barrels_now()), ({name: (0,)}, {name: ((0,),)}))
        for name in ["", "A", "abcdefghijklm", "door", "key", "opens", "rules", "wing", "a1", "a-b"]:
            self.assert_refused(Desk, f"rules 1 2 1 1\ndoor x\nkey {name} opens x")
            self.assert_refused(Bench((1, 2, 1, 1), {}, {}).do, "blank " + name)

    def test_a_written_number_has_no_nought_ahead(self):
        self.assert_refused(read_house, "rules 01 2 1 1\ndoor x")
        self.assert_refused(Bench((2, 2, 1, 1), {"k": (0, 0)}, {}).do, "file k 01 1")
        self.assert_refused(Bench((2, 2, 1, 1), {"k": (0, 0)}, {}).do, "file k 1 01")
        self.assert_refused(Bench((2, 2, 1, 1), {}, {"a": ((0,), (0,))}).do, "pin a 0 00")


if __name__ == "__main__":
    unittest.main()
