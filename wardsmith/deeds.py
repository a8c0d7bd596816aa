"""Deeds: what is done on the bench, each written as a row."""

from wardsmith.barrels import is_pin, shown_pin
from wardsmith.cuts import is_depth
from wardsmith.errors import NoDeed
from wardsmith.rules import is_place
from wardsmith.words import MOST_FIGURES, is_name, number_in, numbers_in


class Deed:
    pass


class Blank(Deed):
    def __init__(self, key):
        self.key = key

    def shown(self):
        return "blank " + self.key


class File(Deed):
    def __init__(self, key, place, depth):
        self.key = key
        self.place = place
        self.depth = depth

    def shown(self):
        return " ".join(["file", self.key, str(self.place), str(self.depth)])


class Pin(Deed):
    def __init__(self, door, place, heights):
        self.door = door
        self.place = place
        self.heights = heights

    def shown(self):
        return " ".join(["pin", self.door, str(self.place), shown_pin(self.heights)])


class Bolt(Deed):
    def __init__(self, door):
        self.door = door

    def shown(self):
        return "bolt " + self.door


class Open(Deed):
    def __init__(self, door):
        self.door = door

    def shown(self):
        return "open " + self.door


def read_deed(rules, text):
    deed = deed_in(rules, text.split(" ")) if isinstance(text, str) else None
    if deed is None:
        raise NoDeed("a row is blank KEY, file KEY PLACE DEPTH, pin DOOR PLACE HEIGHTS, bolt DOOR or open DOOR")
    return deed


# None where the words make no row by the rules.
def deed_in(rules, words):
    if len(words) < 2 or not is_name(words[1]):
        return None
    if len(words) == 2:
        return whole_deed(words[0], words[1])
    return placed_deed(rules, words) if len(words) == 4 else None


def whole_deed(kind, name):
    if kind == "blank":
        return Blank(name)
    if kind == "bolt":
        return Bolt(name)
    return Open(name) if kind == "open" else None


def placed_deed(rules, words):
    place = number_in(words[2], MOST_FIGURES)
    if not is_place(rules, place):
        return None
    if words[0] == "file":
        depth = number_in(words[3], MOST_FIGURES)
        return File(words[1], place, depth) if is_depth(rules, depth) else None
    if words[0] == "pin":
        heights = numbers_in(words[3], ",")
        return Pin(words[1], place, heights) if is_pin(rules, heights) else None
    return None
