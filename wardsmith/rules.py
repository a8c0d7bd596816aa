"""Rules: how many places, depths and heights there are, and how unlike neighbours may be."""

from wardsmith.errors import NoRules
from wardsmith.words import is_whole, numbers_in

MOST_PLACES = 24
LEAST_DEPTHS = 2
MOST_DEPTHS = 20


def places_of(rules):
    return rules[0]


def depths_of(rules):
    return rules[1]


def heights_of(rules):
    return rules[2]


def step_of(rules):
    return rules[3]


def is_place(rules, thing):
    return is_whole(thing) and 0 <= thing < places_of(rules)


def is_rules(thing):
    if not isinstance(thing, tuple) or len(thing) != 4:
        return False
    return all([is_whole(number) for number in thing]) and are_bounded(thing)


def are_bounded(rules):
    depths = depths_of(rules)
    if not 1 <= places_of(rules) <= MOST_PLACES or not LEAST_DEPTHS <= depths <= MOST_DEPTHS:
        return False
    return 1 <= heights_of(rules) <= depths and 1 <= step_of(rules) <= depths - 1


def read_rules(text):
    rules = numbers_in(text, " ")
    if not is_rules(rules):
        raise NoRules("rules are written as PLACES DEPTHS HEIGHTS STEP, parted by one blank each")
    return rules


def shown_rules(rules):
    return " ".join([str(number) for number in rules])
