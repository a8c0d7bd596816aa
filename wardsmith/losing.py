"""Lost keys: which doors are pinned anew behind them, and new cuts in the stead of lost ones."""

from wardsmith.cuts import first_cuts, next_cuts
from wardsmith.looks import names_of
from wardsmith.planner import trial_in
from wardsmith.plans import barrels_in, fault_in, held_by

# No key of a house is called so.
LOST = ""


def loss_of(house, plan, names):
    held = held_by(house)
    kept = dict([(door, [key for key in keys if key not in names]) for door, keys in held.items()])
    barrels = barrels_in(house.rules, kept, plan)
    stray = fault_in(kept, barrels, [key for key in names_of(house.grants) if key in names], plan)
    if stray is not None:
        return ("stray",) + stray
    return ("pinned", dict([(door, barrels[door]) for door in held if kept[door] != held[door]]))


def cut_anew(house, plan, name, most=200):
    held = held_by(house)
    one = first_cuts(house.rules)
    looked = 0
    while one is not None and looked < most:
        if is_safe(house, held, plan, name, one):
            return ("cuts", one)
        one = next_cuts(house.rules, one)
        looked += 1
    return ("none", None) if one is None else ("more", None)


# The lost key goes about like one more key that is no door's holder, so that a right plan opens nothing for it.
def is_safe(house, held, plan, name, one):
    tried = dict(plan)
    tried[LOST] = plan[name]
    tried[name] = one
    return trial_in(house.rules, held, names_of(house.grants) + [LOST], tried)[0] == "good"
