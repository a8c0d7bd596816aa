"""Cuts by rules: how they are written, which come next, and which can be filed on to others."""

from wardsmith.errors import NoCuts
from wardsmith.rules import depths_of, places_of, step_of
from wardsmith.words import is_whole, numbers_in


def is_cuts(rules, thing):
    if not isinstance(thing, tuple) or len(thing) != places_of(rules):
        return False
    if not all([is_depth(rules, cut) for cut in thing]):
        return False
    return all([are_near(rules, before, cut) for before, cut in zip(thing, thing[1:])])


def is_depth(rules, thing):
    return is_whole(thing) and 0 <= thing < depths_of(rules)


def are_near(rules, depth, beside):
    return abs(depth - beside) <= step_of(rules)


def read_cuts(rules, text):
    one = numbers_in(text, "-")
    if not is_cuts(rules, one):
        raise NoCuts("cuts by the rules are written as a depth for each place, with a - between")
    return one


def shown_cuts(one):
    return "-".join([str(cut) for cut in one])


def first_cuts(rules):
    return (0,) * places_of(rules)


# The least greater cuts keep as many of the first places as they can.
def next_cuts(rules, one):
    for place in range(len(one) - 1, -1, -1):
        if can_deepen(rules, one, place):
            return least_from(rules, one[:place] + (one[place] + 1,))
    return None


# Only the place ahead bounds a deeper cut: those behind are cut anew.
def can_deepen(rules, one, place):
    deeper = one[place] + 1
    if deeper >= depths_of(rules):
        return False
    return place == 0 or deeper - one[place - 1] <= step_of(rules)


def least_from(rules, start):
    full = list(start)
    while len(full) < places_of(rules):
        full.append(max(0, full[-1] - step_of(rules)))
    return tuple(full)


def can_file(one, other):
    return all([goal >= cut for cut, goal in zip(one, other)])
