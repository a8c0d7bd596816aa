"""Towers: houses whose keys' doors lie one within another or apart, and their plans, told straight."""

from wardsmith.errors import NoTower, TooFlat, TooNarrow
from wardsmith.looks import spans_of
from wardsmith.rules import depths_of, heights_of, places_of, step_of


def levels_of(house):
    return levels_in(tower_in(house))


def elder_of(house, name):
    return elder_in(tower_in(house), name)


# The keys with their doors, of a house that is a tower.
def tower_in(house):
    spans = spans_of(house)
    refuse_crossed(spans)
    if step_of(house.rules) < depths_of(house.rules) - 1:
        raise NoTower(None, None)
    return spans


def refuse_crossed(spans):
    names = list(spans)
    for place, one in enumerate(names):
        for other in names[place + 1:]:
            if not are_apart(spans[one], spans[other]) and not are_nested(spans[one], spans[other]):
                raise NoTower(one, other)


def are_apart(doors, others):
    return len(set(doors) & set(others)) == 0


# Just one of them within the other: doors that are alike lie both ways.
def are_nested(doors, others):
    return are_within(doors, others) != are_within(others, doors)


def are_within(doors, wider):
    return len(set(doors) - set(wider)) == 0


def levels_in(spans):
    return dict([(name, len(keys_above(spans, name))) for name in spans])


def keys_above(spans, name):
    return [other for other in spans if other != name and are_within(spans[name], spans[other])]


def elder_in(spans, name):
    return min(keys_above(spans, name), key=lambda other: len(spans[other]), default=None)


def tower_plan(house):
    spans = tower_in(house)
    elders = dict([(name, elder_in(spans, name)) for name in spans])
    ranks = ranks_in(elders)
    levels = levels_in(spans)
    refuse_flat(house.rules, levels, ranks)
    widths = widths_of(depths_of(house.rules) - 1, levels, ranks)
    if sum(widths) > places_of(house.rules):
        raise TooNarrow(sum(widths))
    return dict([(name, tower_cuts(house.rules, widths, ranks, line_to(elders, name))) for name in spans])


# A key's number among its brothers, less 1.
def ranks_in(elders):
    ranks = {}
    many = {}
    for name, elder in elders.items():
        ranks[name] = many.get(elder, 0)
        many[elder] = ranks[name] + 1
    return ranks


# Ahead of the widths: with depths 2 there is one digit alone, so that no width holds two brothers.
def refuse_flat(rules, levels, ranks):
    if heights_of(rules) == 1 and any([level > 0 for level in levels.values()]):
        raise TooFlat("two levels ask for two heights")
    if depths_of(rules) < 3 and any([rank > 0 for rank in ranks.values()]):
        raise TooFlat("two brothers ask for three depths")


def widths_of(base, levels, ranks):
    widths = []
    many = max([0] + [deep + 1 for deep in levels.values()])
    for level in range(many):
        brothers = max([ranks[name] + 1 for name in levels if levels[name] == level])
        widths.append(width_for(base, brothers))
    return widths


def width_for(base, brothers):
    width = 0
    reach = 1
    while reach < brothers:
        reach = reach * base
        width += 1
    return max(1, width)


# The keys whose doors the key's own lie within, from level 0 on, and the key itself.
def line_to(elders, name):
    line = [name]
    while elders[line[0]] is not None:
        line = [elders[line[0]]] + line
    return line


def tower_cuts(rules, widths, ranks, line):
    cuts = []
    for name, width in zip(line, widths):
        cuts.extend([digit + 1 for digit in digits_of(ranks[name], depths_of(rules) - 1, width)])
    return tuple(cuts + [0] * (places_of(rules) - len(cuts)))


def digits_of(number, base, width):
    digits = []
    left = number
    while len(digits) < width:
        digits = [left % base] + digits
        left = left // base
    return digits
