"""Houses as texts: rules, doors, wings and keys, a row each."""

from wardsmith.errors import NoRow, NoRules
from wardsmith.rules import read_rules, shown_rules
from wardsmith.words import is_name

MOST_OF_A_KIND = 60
LATER_KINDS = {"door": ("wing", "key"), "wing": ("key",), "key": ()}
LINKS = {"wing": "=", "key": "opens"}


class House:
    # Copies, so that a house and the lists that it was made of don't change one another.
    def __init__(self, rules, doors, wings, grants):
        self.rules = rules
        self.doors = list(doors)
        self.wings = copied(wings)
        self.grants = copied(grants)


def copied(things):
    return [(name, list(names)) for name, names in things]


def read_house(text):
    if not isinstance(text, str):
        raise NoRow(0)
    rows = text.split("\n")
    rules = rules_in(rows[0])
    things = {"door": [], "wing": [], "key": []}
    for place, row in enumerate(rows[1:], start=1):
        words = row.split(" ")
        thing = thing_in(words)
        if thing is None or not can_stand(things, words[0]):
            raise NoRow(place)
        things[words[0]].append(thing)
    if len(things["door"]) == 0:
        raise NoRow(len(rows))
    return House(rules, things["door"], things["wing"], things["key"])


def rules_in(row):
    if not row.startswith("rules "):
        raise NoRow(0)
    try:
        return read_rules(row[len("rules "):])
    except NoRules:
        raise NoRow(0) from None


# A door's name, or a wing's or key's with the list of its names; None where the words make no such row.
def thing_in(words):
    if words[0] == "door":
        return words[1] if len(words) == 2 and is_name(words[1]) else None
    if words[0] not in LINKS or len(words) < 4 or words[2] != LINKS[words[0]]:
        return None
    if not is_name(words[1]) or not are_unlike_names(words[3:]):
        return None
    return (words[1], words[3:])


def are_unlike_names(words):
    return all([is_name(word) for word in words]) and len(set(words)) == len(words)


def can_stand(things, kind):
    if len(things[kind]) >= MOST_OF_A_KIND or any([len(things[later]) > 0 for later in LATER_KINDS[kind]]):
        return False
    return kind == "door" or len(things["door"]) > 0


def shown_house(house):
    rows = ["rules " + shown_rules(house.rules)]
    rows.extend(["door " + door for door in house.doors])
    rows.extend([shown_thing("wing", wing) for wing in house.wings])
    rows.extend([shown_thing("key", grant) for grant in house.grants])
    return "\n".join(rows)


def shown_thing(kind, thing):
    return " ".join([kind, thing[0], LINKS[kind]] + thing[1])
