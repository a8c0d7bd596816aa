"""Looks at houses: whether their names make sense, and which doors belong to a name."""

from wardsmith.errors import Ring, Shared, Twice, Unknown


def look_at(house):
    refuse_twice(house)
    refuse_unknown_and_shared(house)
    refuse_ring(house)


def names_of(things):
    return [name for name, names in things]


def refuse_twice(house):
    seen = {}
    for name in house.doors + names_of(house.wings) + names_of(house.grants):
        if name in seen:
            raise Twice(name)
        seen[name] = True


def refuse_unknown_and_shared(house):
    wings = names_of(house.wings)
    known = house.doors + wings
    taken = []
    for name, members in house.wings:
        refuse_unknown(known, taken, members)
        taken.extend([member for member in members if member in wings])
    for name, opened in house.grants:
        refuse_unknown(known, [], opened)


# One walk for both: in a row the first name that is due is told, whichever refusal it is.
def refuse_unknown(known, taken, names):
    for name in names:
        if name not in known:
            raise Unknown(name)
        if name in taken:
            raise Shared(name)


# No wing is a member of two, so from each wing there is but one way up.
def refuse_ring(house):
    above = {}
    for name, members in house.wings:
        for member in members:
            above[member] = name
    for name in names_of(house.wings):
        ring = ring_above(above, name)
        if ring is not None:
            raise Ring(ring)


def ring_above(above, name):
    path = [name]
    while path[-1] in above:
        higher = above[path[-1]]
        if higher in path:
            # The path leads up, the ring is told downwards.
            return list(reversed(path[path.index(higher):]))
        path.append(higher)
    return None


def doors_of(house, name):
    members = dict(house.wings + house.grants)
    reached = {}
    waiting = [name]
    while len(waiting) > 0:
        thing = waiting.pop()
        if thing not in reached:
            reached[thing] = True
            waiting.extend(members.get(thing, []))
    return [door for door in house.doors if door in reached]


def holders(house, door):
    return [name for name, doors in spans_of(house).items() if door in doors]


# Each key with its doors, in the order of the house's keys.
def spans_of(house):
    return dict([(name, doors_of(house, name)) for name in names_of(house.grants)])
