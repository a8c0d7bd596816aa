"""Strays: cuts at which a door's barrel opens though no holder is cut so."""

from wardsmith.counts import ahead_of, count_of, nth_of
from wardsmith.errors import NoSuch
from wardsmith.looks import holders
from wardsmith.plans import barrel_for
from wardsmith.words import is_whole


def strays_of(house, plan, door):
    taken = taken_at(house, plan, door)
    barrel = barrel_for(house.rules, door, taken)
    if barrel is None:
        return 0
    return count_of(house.rules, barrel) - len(taken)


# The holders' cuts, sorted, those that are alike once.
def taken_at(house, plan, door):
    return sorted(set([plan[name] for name in holders(house, door)]))


def stray_at(house, plan, door, n=0):
    if not is_whole(n) or not 0 <= n < strays_of(house, plan, door):
        raise NoSuch("the number is none from 0 to below the number of the door's strays")
    taken = taken_at(house, plan, door)
    barrel = barrel_for(house.rules, door, taken)
    number = n
    # Each of the holders' cuts ahead of the stray moves it one on among all the cuts of the barrel.
    for one in taken:
        if ahead_of(house.rules, barrel, one) <= number:
            number += 1
    return nth_of(house.rules, barrel, number)
