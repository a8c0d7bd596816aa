"""Pins and barrels: how they are written, at which cuts they open, and the least ones of a list of cuts."""

from wardsmith.cuts import is_depth
from wardsmith.errors import NoBarrel, TooHigh
from wardsmith.rules import heights_of, places_of
from wardsmith.words import numbers_in


def is_barrel(rules, thing):
    if not isinstance(thing, tuple) or len(thing) != places_of(rules):
        return False
    return all([is_pin(rules, pin) for pin in thing])


def is_pin(rules, thing):
    if not isinstance(thing, tuple) or not 1 <= len(thing) <= heights_of(rules):
        return False
    if not all([is_depth(rules, height) for height in thing]):
        return False
    return all([below < height for below, height in zip(thing, thing[1:])])


def read_barrel(rules, text):
    barrel = pins_in(text)
    if not is_barrel(rules, barrel):
        raise NoBarrel("a barrel by the rules is written as a pin for each place, its heights with a , between")
    return barrel


# Not yet held against any rules: None in the stead of what writes no numbers.
def pins_in(thing):
    if not isinstance(thing, str):
        return None
    return tuple([numbers_in(part, ",") for part in thing.split(" ")])


def shown_barrel(barrel):
    return " ".join([shown_pin(pin) for pin in barrel])


def shown_pin(pin):
    return ",".join([str(height) for height in pin])


def opens_at(barrel, one):
    return stopped_at(barrel, one) is None


def stopped_at(barrel, one):
    for place, pin in enumerate(barrel):
        if one[place] not in pin:
            return place
    return None


def least_of(rules, some):
    barrel = []
    for place in range(places_of(rules)):
        pin = tuple(sorted(set([one[place] for one in some])))
        if len(pin) > heights_of(rules):
            raise TooHigh(place)
        barrel.append(pin)
    return tuple(barrel)


def lies_within(barrel, wider):
    return all([holds_all(pin, other) for pin, other in zip(barrel, wider)])


def holds_all(pin, wider):
    return all([height in wider for height in pin])


def cross_of(some, one):
    cross = []
    for place, cut in enumerate(one):
        alike = [number for number, other in enumerate(some) if other[place] == cut]
        if len(alike) == 0:
            return None
        cross.append(alike[0])
    return cross
