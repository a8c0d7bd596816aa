"""The planner: cuts are tried for one key after the other until there is a plan, or none, or no trial left."""

from wardsmith.cuts import first_cuts, next_cuts
from wardsmith.errors import Steep
from wardsmith.looks import names_of
from wardsmith.plans import barrels_in, fault_in, held_by, known_keys


def trial_of(house, plan):
    return trial_in(house.rules, held_by(house), known_keys(house, plan), plan)


def trial_in(rules, held, keys, plan):
    try:
        barrels = barrels_in(rules, held, plan)
    except Steep as refusal:
        return ("steep", (refusal.door, refusal.place))
    fault = fault_in(held, barrels, keys, plan)
    return ("good", None) if fault is None else ("open", fault)


def plan_for(house, most=200):
    names = names_of(house.grants)
    held = held_by(house)
    given = []
    trials = []
    good = True
    while not good or len(given) < len(names):
        given = given + [first_cuts(house.rules)] if good else moved_on(house.rules, given)
        if len(given) == 0:
            return ("none", None, trials)
        if len(trials) >= most:
            return ("more", None, trials)
        keys = names[:len(given)]
        trial = trial_in(house.rules, held, keys, dict(zip(keys, given)))
        trials.append((len(given), given[-1]) + trial)
        good = trial[0] == "good"
    return ("plan", dict(zip(names, given)), trials)


# The last key that has next cuts is given them; the keys behind it are left without.
def moved_on(rules, given):
    kept = list(given)
    while len(kept) > 0:
        following = next_cuts(rules, kept.pop())
        if following is not None:
            return kept + [following]
    return kept
