"""Counts: at how many cuts a barrel opens, how many of these lie ahead of cuts, and which is the n-th."""

from wardsmith.cuts import are_near
from wardsmith.errors import NoSuch
from wardsmith.rules import depths_of
from wardsmith.words import is_whole


def count_of(rules, barrel):
    return sum(ways_of(rules, barrel)[0].values())


# For each place a dict of its depths, rising: in how many ways the places behind it can be cut.
# Cuts may be more than can be walked one by one, so they are counted from the last place on.
def ways_of(rules, barrel):
    ways = []
    for pin in reversed(barrel):
        ways = [ways_at(rules, pin, ways)] + ways
    return ways


def ways_at(rules, pin, behind):
    here = {}
    for depth in range(depths_of(rules)):
        if depth in pin:
            here[depth] = ways_on(rules, depth, behind)
    return here


def ways_on(rules, depth, behind):
    if len(behind) == 0:
        return 1
    return sum([many for beside, many in behind[0].items() if are_near(rules, depth, beside)])


# Those of a place's ways that the step allows behind the cuts of the places ahead of it.
def choices(rules, ways, start):
    here = ways[len(start)]
    if len(start) == 0:
        return here
    return dict([(depth, many) for depth, many in here.items() if are_near(rules, start[-1], depth)])


def ahead_of(rules, barrel, one):
    ways = ways_of(rules, barrel)
    ahead = 0
    for place, cut in enumerate(one):
        here = choices(rules, ways, one[:place])
        ahead += sum([many for depth, many in here.items() if depth < cut])
        if cut not in here:
            break
    return ahead


def nth_of(rules, barrel, n=0):
    ways = ways_of(rules, barrel)
    if not is_whole(n) or not 0 <= n < sum(ways[0].values()):
        raise NoSuch("the number is none from 0 to below the count of the barrel")
    start = ()
    left = n
    while len(start) < len(ways):
        picked = pick(choices(rules, ways, start), left)
        start = start + (picked[0],)
        left = picked[1]
    return start


# The depth at which the cuts go on that have so many ahead, and how many of those ahead go on there, too.
def pick(here, left):
    ahead = 0
    for depth, many in here.items():
        if left < ahead + many:
            return (depth, left - ahead)
        ahead += many
    return None


def filed_count(rules, barrel, one):
    deeper = [tuple([height for height in pin if height >= cut]) for pin, cut in zip(barrel, one)]
    return count_of(rules, tuple(deeper))
