"""The desk: a house and its plan, told rows, each of which it answers with a text."""

from wardsmith.barrels import opens_at, shown_barrel, stopped_at
from wardsmith.cuts import read_cuts, shown_cuts
from wardsmith.errors import NoPlan, NoSay, Wrong
from wardsmith.houses import read_house
from wardsmith.looks import doors_of, holders, look_at, names_of
from wardsmith.losing import cut_anew, loss_of
from wardsmith.planner import plan_for
from wardsmith.plans import barrels_of, fault_of
from wardsmith.strays import stray_at, strays_of
from wardsmith.towers import tower_plan
from wardsmith.words import number_in

LONGEST_NUMBER = 60
MOST_TRIALS = 2000

# What stands behind the first word of a row; plan and lost have no one form.
FORMS = {
    "tower": (),
    "key": ("KEY", "CUTS"),
    "cuts": ("KEY",),
    "barrel": ("DOOR",),
    "fault": (),
    "turn": ("DOOR", "CUTS"),
    "who": ("DOOR",),
    "strays": ("DOOR",),
    "stray": ("DOOR", "NUMBER"),
    "anew": ("KEY",),
    "doors": ("NAME",),
    "holders": ("DOOR",),
}
CHANGES = ("plan", "tower", "key")
ASKS_NO_PLAN = ("plan", "tower", "doors", "holders")
ASKS_RIGHT_PLAN = ("lost", "anew")


class Desk:
    def __init__(self, text):
        self.house = read_house(text)
        look_at(self.house)
        self.plan = None

    def say(self, row):
        words = words_in(self.house, row)
        refuse_plan(self.house, self.plan, words[0])
        if words[0] not in CHANGES:
            return answer_to(self.house, self.plan, words[0], words[1:])
        change = change_by(self.house, self.plan, words[0], words[1:])
        self.plan = change[1]
        return change[0]


def words_in(house, row):
    words = row.split(" ") if isinstance(row, str) else [""]
    if not is_row(house, words[0], words[1:]):
        raise NoSay("this is no row of the desk, or names what the house hasn't")
    return words


def is_row(house, kind, told):
    if kind == "plan":
        return len(told) == 0 or len(told) == 1 and is_most(told[0])
    if kind == "lost":
        return len(told) > 0 and len(set(told)) == len(told) and all([is_in_form(house, "KEY", word) for word in told])
    if kind not in FORMS or len(told) != len(FORMS[kind]):
        return False
    return all([is_in_form(house, form, word) for form, word in zip(FORMS[kind], told)])


def is_most(word):
    most = number_in(word, LONGEST_NUMBER)
    return most is not None and most <= MOST_TRIALS


def is_in_form(house, form, word):
    if form == "DOOR":
        return word in house.doors
    if form == "KEY":
        return word in names_of(house.grants)
    if form == "NAME":
        return word in house.doors + names_of(house.wings + house.grants)
    if form == "NUMBER":
        return number_in(word, LONGEST_NUMBER) is not None
    # Cuts that are none are refused only behind what is due ahead of them.
    return True


def refuse_plan(house, plan, kind):
    if plan is None and kind not in ASKS_NO_PLAN:
        raise NoPlan("there is no plan yet")
    if kind in ASKS_RIGHT_PLAN and fault_of(house, plan) is not None:
        raise Wrong("the plan has a fault")


# The answer, and the plan from then on.
def change_by(house, plan, kind, told):
    if kind == "tower":
        return ("plan", tower_plan(house))
    if kind == "key":
        return ("ok", recut(house, plan, told[0], read_cuts(house.rules, told[1])))
    found = plan_for(house) if len(told) == 0 else plan_for(house, int(told[0]))
    return (found[0], found[1] if found[0] == "plan" else plan)


def recut(house, plan, name, one):
    other = dict(plan)
    other[name] = one
    # Asked for its refusal alone.
    barrels_of(house, other)
    return other


def answer_to(house, plan, kind, told):
    if kind == "doors":
        return listed(doors_of(house, told[0]))
    if kind == "holders":
        return listed(holders(house, told[0]))
    if kind == "cuts":
        return shown_cuts(plan[told[0]])
    if kind == "fault":
        return shown_fault(fault_of(house, plan))
    if kind == "strays":
        return str(strays_of(house, plan, told[0]))
    if kind == "stray":
        return shown_cuts(stray_at(house, plan, told[0], int(told[1])))
    if kind == "lost":
        return shown_loss(loss_of(house, plan, told))
    if kind == "anew":
        return shown_anew(cut_anew(house, plan, told[0]))
    return answer_at(house, plan, kind, told)


# The rows that ask a door's barrel.
def answer_at(house, plan, kind, told):
    barrel = barrels_of(house, plan)[told[0]]
    if kind == "turn":
        return shown_turn(barrel, read_cuts(house.rules, told[1]))
    if kind == "who":
        return listed(openers(house, plan, barrel))
    return "-" if barrel is None else shown_barrel(barrel)


def openers(house, plan, barrel):
    if barrel is None:
        return []
    return [name for name in names_of(house.grants) if opens_at(barrel, plan[name])]


def shown_turn(barrel, one):
    if barrel is None:
        return "bolted"
    place = stopped_at(barrel, one)
    return "open" if place is None else str(place)


def shown_fault(fault):
    return "-" if fault is None else listed([fault[0], fault[1]] + fault[2])


def shown_loss(loss):
    if loss[0] == "pinned":
        return listed(["pinned"] + list(loss[1]))
    return listed(["stray", loss[1], loss[2]] + loss[3])


def shown_anew(found):
    return shown_cuts(found[1]) if found[0] == "cuts" else found[0]


def listed(names):
    return "-" if len(names) == 0 else " ".join(names)
