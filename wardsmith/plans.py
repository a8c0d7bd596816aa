"""Plans: the barrels that keys' cuts make for the doors, and whether a key opens a door unasked."""

from wardsmith.barrels import cross_of, least_of, opens_at
from wardsmith.errors import Steep, TooHigh
from wardsmith.looks import names_of, spans_of


def barrels_of(house, plan):
    return barrels_in(house.rules, held_by(house), plan)


def fault_of(house, plan):
    held = held_by(house)
    return fault_in(held, barrels_in(house.rules, held, plan), known_keys(house, plan), plan)


# All doors' holders at once, since a planner asks for them again and again.
def held_by(house):
    spans = spans_of(house)
    return dict([(door, [name for name, doors in spans.items() if door in doors]) for door in house.doors])


# A plan may be told in any order, and one that is under way hasn't cuts for all keys.
def known_keys(house, plan):
    return [name for name in names_of(house.grants) if name in plan]


def barrels_in(rules, held, plan):
    barrels = {}
    for door, names in held.items():
        barrels[door] = barrel_for(rules, door, [plan[name] for name in names if name in plan])
    return barrels


def barrel_for(rules, door, some):
    if len(some) == 0:
        return None
    try:
        return least_of(rules, some)
    except TooHigh as refusal:
        raise Steep(door, refusal.place) from None


def fault_in(held, barrels, keys, plan):
    for door, barrel in barrels.items():
        for key in keys:
            if barrel is not None and key not in held[door] and opens_at(barrel, plan[key]):
                return (door, key, named_cross([name for name in held[door] if name in plan], key, plan))
    return None


def named_cross(names, key, plan):
    cross = cross_of([plan[name] for name in names], plan[key])
    return [names[number] for number in cross]
