"""What several tests need: wrong inputs; cuts, barrels and plans told anew from the document by walking all there are;
a test case that asks the program and looks at what was handed in."""

import copy
import itertools
import unittest

from wardsmith.errors import SmithError
from wardsmith.houses import House

NO_TEXTS = [None, True, False, 0, 1, -3, 2.5, b"", b"1 2 1 1", b"0", [], ["0"], ["1", "2", "1", "1"], ("0",),
            (), (1, 2, 1, 1), (0,), {}, {"0": 0}, {"0"}, set(), object(), str, len]

# Written numbers are to be met with none of these in their stead.
NO_NUMBERS = ["", "00", "01", "007", "000", "0000", "1000", "9999", "+1", "-1", "-0", "+0", " 1", "1 ", "1\n", "\n1",
              "1\r", "\t1", "1\t", "1\u00a0", "1\u2028", "1_0", "1.0", "1.", "1e1", "0x1", "a", "x", ",", "1,2",
              "\u0661", "\u00b2", "\uff11", "\u0967", "\u00bd", "\u2460", "1\u0661", "\u22121", "\x00", "1\x00"]


def all_cuts(rules):
    places, depths, _, step = rules
    return [one for one in itertools.product(range(depths), repeat=places)
            if all(abs(one[place] - one[place + 1]) <= step for place in range(places - 1))]


def all_barrels(rules):
    places, depths, heights, _ = rules
    pins = [pin for many in range(1, heights + 1) for pin in itertools.combinations(range(depths), many)]
    return list(itertools.product(pins, repeat=places))


def fits(barrel, one):
    return all(cut in pin for pin, cut in zip(barrel, one, strict=True))


# Of one cuts or more, whatever the heights; None of none.
def least(some):
    return tuple(tuple(sorted(set(cuts))) for cuts in zip(*some)) if some else None


def house_of(rules, doors, **grants):
    return House(rules, doors.split(), [], [(name, opened.split()) for name, opened in grants.items()])


# All houses without wings, of so many doors and keys: each key opens one door or more.
def all_houses(rules, doors, keys):
    doors = "abcdefgh"[:doors]
    spans = [list(span) for many in range(1, len(doors) + 1) for span in itertools.combinations(doors, many)]
    for opened in itertools.product(spans, repeat=keys):
        yield House(rules, list(doors), [], list(zip("tuvwxyz"[:keys], opened)))


# Of houses of which no key opens a wing.
def owners(house, door):
    return [name for name, opened in house.grants if door in opened]


def all_plans(house):
    names = [name for name, _ in house.grants]
    for given in itertools.product(all_cuts(house.rules), repeat=len(names)):
        yield dict(zip(names, given))


# ("steep", (door, place)), ("open", (door, key, cross)) or ("good", None), of the keys that have cuts.
def word_of(house, plan):
    own = {door: [name for name in owners(house, door) if name in plan] for door in house.doors}
    for door in house.doors:
        for place in range(house.rules[0]):
            if len({plan[name][place] for name in own[door]}) > house.rules[2]:
                return ("steep", (door, place))
    for door in house.doors:
        for key in [name for name, _ in house.grants if name in plan and name not in owners(house, door)]:
            alike = [[name for name in own[door] if plan[name][place] == cut] for place, cut in enumerate(plan[key])]
            if all(alike):
                return ("open", (door, key, [names[0] for names in alike]))
    return ("good", None)


# Of houses of which no key opens a wing, as are the two below.
def walked_loss(house, plan, names):
    kept = {door: [name for name in owners(house, door) if name not in names] for door in house.doors}
    for door in house.doors:
        for key in [name for name, _ in house.grants if name in names]:
            alike = [[name for name in kept[door] if plan[name][place] == cut] for place, cut in enumerate(plan[key])]
            if all(alike):
                return ("stray", door, key, [others[0] for others in alike])
    return ("pinned", {door: least([plan[name] for name in kept[door]]) for door in house.doors
                       if kept[door] != owners(house, door)})


def is_such(house, plan, name, one):
    anew = plan | {name: one}
    barrels = [least([anew[holder] for holder in owners(house, door)]) for door in house.doors]
    return word_of(house, anew)[0] == "good" and not any(barrel and fits(barrel, plan[name]) for barrel in barrels)


def walked_anew(house, plan, name, most):
    for looked, one in enumerate(all_cuts(house.rules)):
        if looked == most:
            return ("more", None)
        if is_such(house, plan, name, one):
            return ("cuts", one)
    return ("none", None)


# A house, a right plan, and the cuts with so many less 1 ahead: read as binary numbers, all those ahead open other doors
# than the key k's, one such door for each figure 1.
def first_free_at(needed):
    figures = [int(figure) for figure in "0" + format(needed - 1, "b")]
    places = len(figures)
    house = House((places, 2, 2, 1), ["a"], [], [("k", ["a"])])
    plan = {"k": (1,) * places}
    for place in [place for place, figure in enumerate(figures) if figure == 1]:
        letter = "abcdefghijkl"[place]
        house.doors.append("d" + letter)
        for name, rest in [("l" + letter, 0), ("m" + letter, 1)]:
            house.grants.append((name, ["d" + letter]))
            plan[name] = tuple(figures[:place]) + (0,) + (rest,) * (places - place - 1)
    return house, plan, tuple(figures)


def shown_all(things):
    return copy.deepcopy([vars(thing) if isinstance(thing, House) else thing for thing in things])


# Takes out all that can be taken out.
def spoil(thing):
    if isinstance(thing, (list, tuple)):
        for part in thing:
            spoil(part)
    if isinstance(thing, dict):
        spoil(list(thing.values()))
    if isinstance(thing, (list, dict)):
        thing.clear()


class Asker(unittest.TestCase):
    def assert_told(self, told, ask, *handed):
        before = shown_all(handed)
        with self.subTest(repr(before)):
            answer = ask(*handed)
            self.assertEqual(repr(answer), repr(told))
            self.assertEqual(shown_all(handed), before)
            spoil(answer)
            self.assertEqual(shown_all(handed), before)
            self.assertEqual(ask(*handed), told)

    def assert_refused(self, kind, fields, ask, *handed):
        before = shown_all(handed)
        with self.subTest(repr(before)):
            with self.assertRaises(SmithError) as taken:
                ask(*handed)
            self.assertIs(type(taken.exception), kind)
            self.assertEqual(vars(taken.exception), fields)
            self.assertEqual(shown_all(handed), before)
