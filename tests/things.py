"""What several tests need: wrong inputs, and cuts and barrels told anew from the document by walking all there are."""

import itertools

NO_TEXTS = [None, True, False, 0, 1, -3, 2.5, b"", b"1 2 1 1", b"0", [], ["0"], ["1", "2", "1", "1"], ("0",),
            (), (1, 2, 1, 1), (0,), {}, {"0": 0}, {"0"}, set(), object(), str, len]

# Written numbers are to be met with none of these in their stead.
NO_NUMBERS = ["", "00", "01", "007", "000", "0000", "1000", "9999", "+1", "-1", "-0", "+0", " 1", "1 ", "1\n", "\n1",
              "1\r", "\t1", "1\t", "1\u00a0", "1\u2028", "1_0", "1.0", "1.", "1e1", "0x1", "a", "x", ",", "1,2",
              "\u0661", "\u00b2", "\uff11", "\u0967", "\u00bd", "\u2460", "1\u0661", "\u22121", "\x00", "1\x00"]


def all_cuts(rules):
    places, depths, _, step = rules
    return [one for one in itertools.product(range(depths), repeat=places)
            if all(abs(one[place] - one[place + 1]) <= step for place in range(places - 1))]


def all_barrels(rules):
    places, depths, heights, _ = rules
    pins = [pin for many in range(1, heights + 1) for pin in itertools.combinations(range(depths), many)]
    return list(itertools.product(pins, repeat=places))


def fits(barrel, one):
    return all(cut in pin for pin, cut in zip(barrel, one, strict=True))
