"""The bench: keys and barrels under way, the rows done there, and the rows that lead from one bench to another."""

from wardsmith.cuts import can_file, first_cuts
from wardsmith.deeds import Blank, Bolt, File, Open, Pin, read_deed
from wardsmith.errors import NoThing, Shallow
from wardsmith.rules import places_of


class Bench:
    def __init__(self, rules, keys, barrels):
        self.rules = rules
        self.cuts = dict(keys)
        self.barrels = dict(barrels)

    def do(self, row):
        deed = read_deed(self.rules, row)
        if isinstance(deed, Blank):
            self.cuts[deed.key] = first_cuts(self.rules)
        elif isinstance(deed, File):
            self.cuts[deed.key] = filed(self.cuts, deed)
        else:
            self.barrels[deed.door] = worked_on(self.rules, self.barrels, deed)

    def keys_now(self):
        return by_names(self.cuts)

    def barrels_now(self):
        return by_names(self.barrels)


def by_names(things):
    return dict([(name, things[name]) for name in sorted(things)])


def filed(keys, deed):
    if deed.key not in keys:
        raise NoThing("there is no such key")
    cuts = keys[deed.key]
    if deed.depth <= cuts[deed.place]:
        raise Shallow("the key is cut as deep there already, or deeper")
    return replaced(cuts, deed.place, deed.depth)


# What the door has behind the deed.
def worked_on(rules, barrels, deed):
    if deed.door not in barrels:
        raise NoThing("there is no such door")
    barrel = barrels[deed.door]
    if isinstance(deed, Open):
        return opened(rules, barrel)
    if barrel is None:
        raise NoThing("the door is bolted")
    return replaced(barrel, deed.place, deed.heights) if isinstance(deed, Pin) else None


def opened(rules, barrel):
    if barrel is not None:
        raise NoThing("the door isn't bolted")
    return flat_barrel(rules)


def flat_barrel(rules):
    return ((0,),) * places_of(rules)


def replaced(row, place, part):
    return row[:place] + (part,) + row[place + 1:]


def rows_to(rules, keys, barrels, other_keys, other_barrels):
    deeds = []
    for name in sorted(other_keys):
        deeds.extend(key_deeds(rules, name, keys.get(name), other_keys[name]))
    for name in sorted(other_barrels):
        deeds.extend(door_deeds(rules, name, barrels[name], other_barrels[name]))
    return [deed.shown() for deed in deeds]


# From cuts to cuts, or from None where the key isn't there.
def key_deeds(rules, name, cuts, goal):
    if cuts is None or not can_file(cuts, goal):
        return [Blank(name)] + file_deeds(name, first_cuts(rules), goal)
    return file_deeds(name, cuts, goal)


def file_deeds(name, cuts, goal):
    return [File(name, place, depth) for place, depth in enumerate(goal) if cuts[place] < depth]


def door_deeds(rules, name, barrel, goal):
    if goal is None:
        return [] if barrel is None else [Bolt(name)]
    if barrel is None:
        return [Open(name)] + pin_deeds(name, flat_barrel(rules), goal)
    return pin_deeds(name, barrel, goal)


def pin_deeds(name, barrel, goal):
    return [Pin(name, place, heights) for place, heights in enumerate(goal) if barrel[place] != heights]
