import itertools
import unittest

from tests.things import NO_TEXTS, Asker, all_barrels, spoil
from wardsmith.bench import Bench, rows_to
from wardsmith.errors import NoDeed, NoThing, Shallow, SmithError

RULES = (3, 6, 2, 1)

# The cuts lie farther apart than the step: these are under way.
KEYS = {"carl": (0, 5, 0), "anna": (2, 2, 2)}
BARRELS = {"shed": None, "front": ((0,), (1, 3), (2,)), "attic": ((5,), (0, 5), (0,))}


def new_bench():
    return Bench(RULES, KEYS, BARRELS)


def state(bench):
    return repr((bench.keys_now(), bench.barrels_now()))


class OnTheBench(Asker):
    def assert_done(self, row, keys, barrels):
        bench = new_bench()
        self.assertIsNone(bench.do(row))
        self.assertEqual(repr(bench.keys_now()), repr(dict(sorted((KEYS | keys).items()))))
        self.assertEqual(repr(bench.barrels_now()), repr(dict(sorted((BARRELS | barrels).items()))))

    def assert_row_refused(self, kind, *rows):
        for row in rows:
            bench = new_bench()
            before = state(bench)
            self.assert_refused(kind, {}, bench.do, row)
            self.assertEqual(state(bench), before)


class Things(OnTheBench):
    def test_what_lies_there_by_names_sorted(self):
        bench = new_bench()
        self.assertEqual(repr(bench.keys_now()), repr({"anna": (2, 2, 2), "carl": (0, 5, 0)}))
        self.assertEqual(repr(bench.barrels_now()),
                         repr({"attic": ((5,), (0, 5), (0,)), "front": ((0,), (1, 3), (2,)), "shed": None}))

    def test_an_empty_bench(self):
        bench = Bench(RULES, {}, {})
        self.assertEqual(bench.keys_now(), {})
        self.assertEqual(bench.barrels_now(), {})
        bench.do("blank k")
        self.assertEqual(bench.keys_now(), {"k": (0, 0, 0)})
        self.assert_refused(NoThing, {}, bench.do, "open a")

    def test_by_the_names_of_its_arguments(self):
        bench = Bench(rules=RULES, keys={"k": (0, 0, 0)}, barrels={"a": None})
        bench.do(row="file k 0 1")
        self.assertEqual((bench.keys_now(), bench.barrels_now()), ({"k": (1, 0, 0)}, {"a": None}))

    def test_a_key_and_a_door_of_one_name(self):
        bench = Bench(RULES, {"a": (0, 0, 0)}, {"a": None})
        bench.do("open a")
        bench.do("file a 1 1")
        bench.do("pin a 1 3")
        self.assertEqual((bench.keys_now(), bench.barrels_now()), ({"a": (0, 1, 0)}, {"a": ((0,), (3,), (0,))}))
        bench.do("bolt a")
        bench.do("blank a")
        self.assertEqual((bench.keys_now(), bench.barrels_now()), ({"a": (0, 0, 0)}, {"a": None}))

    def test_it_keeps_copies(self):
        keys, barrels = dict(KEYS), dict(BARRELS)
        bench = Bench(RULES, keys, barrels)
        before = state(bench)
        keys.clear()
        barrels.clear()
        self.assertEqual(state(bench), before)

    def test_what_is_handed_in_stays_as_it_was(self):
        keys, barrels = dict(KEYS), dict(BARRELS)
        bench = Bench(RULES, keys, barrels)
        for row in ["blank anna", "blank new", "file anna 0 3", "pin front 0 5", "bolt front", "open shed"]:
            bench.do(row)
        self.assertEqual(repr((keys, barrels)), repr((KEYS, BARRELS)))

    def test_told_dicts_are_the_askers_own(self):
        bench = new_bench()
        before = state(bench)
        spoil(bench.keys_now())
        spoil(bench.barrels_now())
        bench.keys_now()["anna"] = None
        bench.barrels_now()["new"] = None
        self.assertEqual(state(bench), before)

    def test_told_dicts_stay_as_they_were(self):
        bench = new_bench()
        keys, barrels = bench.keys_now(), bench.barrels_now()
        before = repr((keys, barrels))
        for row in ["blank anna", "blank new", "file anna 0 3", "pin front 0 5", "bolt front", "open shed"]:
            bench.do(row)
        self.assertEqual(repr((keys, barrels)), before)

    def test_two_benches_keep_apart(self):
        one, other = new_bench(), new_bench()
        one.do("blank anna")
        one.do("bolt front")
        self.assertEqual(state(other), state(new_bench()))


class Done(OnTheBench):
    def test_blank(self):
        self.assert_done("blank dora", {"dora": (0, 0, 0)}, {})
        self.assert_done("blank anna", {"anna": (0, 0, 0)}, {})
        self.assert_done("blank front", {"front": (0, 0, 0)}, {})

    def test_file(self):
        self.assert_done("file anna 0 3", {"anna": (3, 2, 2)}, {})
        self.assert_done("file anna 1 5", {"anna": (2, 5, 2)}, {})
        self.assert_done("file carl 2 1", {"carl": (0, 5, 1)}, {})

    def test_pin(self):
        self.assert_done("pin front 0 1", {}, {"front": ((1,), (1, 3), (2,))})
        self.assert_done("pin front 2 0,5", {}, {"front": ((0,), (1, 3), (0, 5))})
        self.assert_done("pin attic 1 4", {}, {"attic": ((5,), (4,), (0,))})

    def test_a_pin_told_as_it_is(self):
        self.assert_done("pin front 1 1,3", {}, {})
        self.assert_done("pin attic 0 5", {}, {})

    def test_bolt(self):
        self.assert_done("bolt front", {}, {"front": None})

    def test_open(self):
        self.assert_done("open shed", {}, {"shed": ((0,), (0,), (0,))})

    def test_row_by_row(self):
        bench = new_bench()
        for row in ["file carl 0 1", "file carl 0 2", "blank carl", "file carl 1 1", "bolt front", "open front",
                    "pin front 1 2,3", "pin front 1 4", "open shed", "bolt shed"]:
            bench.do(row)
        self.assertEqual(bench.keys_now(), {"anna": (2, 2, 2), "carl": (0, 1, 0)})
        self.assertEqual(bench.barrels_now(), BARRELS | {"front": ((0,), (4,), (0,))})

    def test_names_stay_sorted(self):
        bench = new_bench()
        for name in ["zoe", "aaron", "mia"]:
            bench.do("blank " + name)
        self.assertEqual(list(bench.keys_now()), ["aaron", "anna", "carl", "mia", "zoe"])
        bench.do("open shed")
        self.assertEqual(list(bench.barrels_now()), ["attic", "front", "shed"])


class Refused(OnTheBench):
    def test_what_is_no_deed(self):
        self.assert_row_refused(NoDeed, "", "blank", "blank  dora", "blank dora ", " blank dora", "blank key", "blank Dora",
                                "file anna 3 5", "file anna 0 6", "file anna 00 3", "file anna 0 03", "file anna -1 3",
                                "pin front 3 0", "pin front 0 6", "pin front 0 2,1", "pin front 0 1,1",
                                "pin front 0 0,1,2", "pin front 0", "bolt", "bolt front front", "open", "close front")

    def test_what_is_no_text(self):
        bench = new_bench()
        before = state(bench)
        for thing in NO_TEXTS + [["blank", "anna"]]:
            with self.subTest(repr(thing)):
                with self.assertRaises(SmithError) as taken:
                    bench.do(thing)
                self.assertIs(type(taken.exception), NoDeed)
                self.assertEqual(state(bench), before)

    def test_what_is_not_there(self):
        self.assert_row_refused(NoThing, "file dora 0 1", "file front 0 1", "pin cellar 0 1", "pin anna 0 1",
                                "bolt cellar", "bolt anna", "open cellar", "open anna")

    def test_bolted_doors_and_others(self):
        self.assert_row_refused(NoThing, "pin shed 0 0", "pin shed 2 0,5", "bolt shed", "open front", "open attic")

    def test_a_depth_that_is_no_deeper(self):
        self.assert_row_refused(Shallow, "file anna 0 2", "file anna 0 1", "file anna 0 0", "file carl 0 0",
                                "file carl 1 5", "file carl 1 4")
        self.assert_done("file anna 0 3", {"anna": (3, 2, 2)}, {})

    def test_the_first_that_is_due(self):
        # No deed ahead of no thing, no thing ahead of too shallow.
        self.assert_row_refused(NoDeed, "file dora 3 1", "file dora 0 6", "pin cellar 3 1", "pin shed 0 1,0",
                                "file carl 3 0", "bolt shed ", "file dora 0 00")
        self.assert_row_refused(NoThing, "file dora 0 0", "file shed 0 0")

    def test_behind_a_refused_row_all_goes_on(self):
        bench = new_bench()
        self.assert_refused(Shallow, {}, bench.do, "file anna 0 2")
        bench.do("file anna 0 3")
        self.assert_refused(Shallow, {}, bench.do, "file anna 0 3")
        bench.do("bolt front")
        self.assert_refused(NoThing, {}, bench.do, "bolt front")
        bench.do("open front")
        self.assert_refused(NoThing, {}, bench.do, "open front")
        self.assertEqual(bench.keys_now()["anna"], (3, 2, 2))
        self.assertEqual(bench.barrels_now()["front"], ((0,), (0,), (0,)))


def behind(rules, keys, barrels, rows):
    bench = Bench(rules, keys, barrels)
    for row in rows:
        bench.do(row)
    return bench.keys_now(), bench.barrels_now()


def leads(rules, keys, barrels, rows, other_keys, other_barrels):
    try:
        told = behind(rules, keys, barrels, rows)
    except SmithError:
        return False
    return {name: told[0].get(name) for name in other_keys} == other_keys and told[1] == other_barrels


# The document's words.
def walked_rows(rules, keys, barrels, other_keys, other_barrels):
    rows = []
    for name, goal in sorted(other_keys.items()):
        cuts = keys.get(name, (99,))
        if any(cut > deep for cut, deep in zip(cuts, goal)):
            rows.append("blank " + name)
            cuts = (0,) * rules[0]
        rows += [f"file {name} {place} {goal[place]}" for place in range(rules[0]) if cuts[place] < goal[place]]
    for name, goal in sorted(other_barrels.items()):
        barrel = barrels[name]
        if barrel is not None and goal is None:
            rows.append("bolt " + name)
        if barrel is None and goal is not None:
            rows.append("open " + name)
            barrel = ((0,),) * rules[0]
        for place in range(rules[0]):
            if goal is not None and goal[place] != barrel[place]:
                rows.append(f"pin {name} {place} " + ",".join(map(str, goal[place])))
    return rows


class Rows(Asker):
    def assert_rows(self, rows, *benches):
        self.assert_told(rows, rows_to, RULES, *benches)
        self.assertTrue(leads(RULES, benches[0], benches[1], rows, benches[2], benches[3]))

    def test_benches_that_are_alike(self):
        self.assert_rows([], KEYS, BARRELS, KEYS, BARRELS)
        self.assert_rows([], {}, {}, {}, {})
        self.assert_rows([], {"k": (0, 0, 0)}, {"a": None}, {"k": (0, 0, 0)}, {"a": None})

    def test_a_key_that_is_filed_on(self):
        self.assert_rows(["file anna 0 3", "file anna 2 5"], KEYS, {}, KEYS | {"anna": (3, 2, 5)}, {})

    def test_a_key_that_cannot_be_filed_on(self):
        self.assert_rows(["blank anna", "file anna 0 3", "file anna 1 1", "file anna 2 5"], KEYS, {},
                         {"anna": (3, 1, 5)}, {})
        self.assert_rows(["blank anna"], KEYS, {}, {"anna": (0, 0, 0)}, {})
        self.assert_rows(["blank anna", "file anna 0 2", "file anna 1 2"], KEYS, {}, {"anna": (2, 2, 0)}, {})

    def test_keys_on_the_other_bench_only(self):
        self.assert_rows(["blank k", "file k 1 2"], {}, {}, {"k": (0, 2, 0)}, {})
        self.assert_rows(["blank k"], {"l": (0, 0, 0)}, {}, {"k": (0, 0, 0), "l": (0, 0, 0)}, {})

    def test_keys_on_the_first_bench_only(self):
        self.assert_rows([], KEYS, {}, {}, {})
        self.assert_rows(["file anna 0 4"], KEYS, {}, {"anna": (4, 2, 2)}, {})
        self.assertEqual(behind(RULES, KEYS, {}, ["file anna 0 4"])[0], {"anna": (4, 2, 2), "carl": (0, 5, 0)})

    def test_keys_and_doors_in_the_order_of_their_names(self):
        self.assert_rows(["blank a", "file a 0 1", "blank m", "file m 0 1", "blank z", "file z 0 1"], {}, {},
                         {"m": (1, 0, 0), "z": (1, 0, 0), "a": (1, 0, 0)}, {})
        self.assert_rows(["open a", "pin a 0 1", "bolt m", "pin z 0 1"], {},
                         {"z": ((0,),) * 3, "m": ((0,),) * 3, "a": None}, {},
                         {"m": None, "a": ((1,), (0,), (0,)), "z": ((1,), (0,), (0,))})

    def test_keys_come_ahead_of_doors(self):
        self.assert_rows(["blank z", "bolt a"], {}, {"a": ((0,),) * 3}, {"z": (0, 0, 0)}, {"a": None})

    def test_doors_bolted_on_the_one_on_the_other_on_both(self):
        barrel = ((0,), (1, 3), (2,))
        self.assert_rows(["bolt a"], {}, {"a": barrel}, {}, {"a": None})
        self.assert_rows(["open a", "pin a 1 1,3", "pin a 2 2"], {}, {"a": None}, {}, {"a": barrel})
        self.assert_rows(["open a"], {}, {"a": None}, {}, {"a": ((0,), (0,), (0,))})
        self.assert_rows([], {}, {"a": None}, {}, {"a": None})

    def test_pins_that_are_otherwise(self):
        barrel = ((0,), (1, 3), (2,))
        self.assert_rows(["pin a 0 0,1", "pin a 2 5"], {}, {"a": barrel}, {}, {"a": ((0, 1), (1, 3), (5,))})
        self.assert_rows(["pin a 1 1"], {}, {"a": barrel}, {}, {"a": ((0,), (1,), (2,))})
        self.assert_rows([], {}, {"a": barrel}, {}, {"a": barrel})

    def test_by_the_names_of_the_arguments(self):
        self.assertEqual(rows_to(rules=RULES, keys={}, barrels={"a": None}, other_keys={"k": (0, 0, 1)},
                                 other_barrels={"a": ((0,),) * 3}), ["blank k", "file k 2 1", "open a"])

    def test_wide_rules(self):
        rules = (24, 20, 20, 19)
        barrel = (tuple(range(20)),) * 24
        rows = rows_to(rules, {}, {"a": None}, {"k": (19,) * 24}, {"a": barrel})
        figures = ",".join(str(height) for height in range(20))
        self.assertEqual(rows, ["blank k"] + [f"file k {place} 19" for place in range(24)] + ["open a"]
                         + [f"pin a {place} {figures}" for place in range(24)])
        self.assertEqual(behind(rules, {}, {"a": None}, rows), ({"k": (19,) * 24}, {"a": barrel}))


# The same keys need not lie on both, the same doors do.
def all_benches():
    cuts = [None] + list(itertools.product(range(3), repeat=2))
    keys = [{name: one for name, one in zip("lk", given) if one} for given in itertools.product(cuts, repeat=2)]
    barrels = [None] + all_barrels((2, 2, 2, 1))
    pairs = itertools.product(barrels[:6], repeat=2)
    return keys, [{"b": barrel} for barrel in barrels], [{"b": one, "a": other} for one, other in pairs]


class AllSmallBenches(unittest.TestCase):
    RULES = (2, 3, 2, 1)

    def assert_led(self, *benches):
        rows = rows_to(self.RULES, *benches)
        self.assertEqual(rows, walked_rows(self.RULES, *benches))
        self.assertTrue(leads(self.RULES, benches[0], benches[1], rows, benches[2], benches[3]))
        for place in range(len(rows)):
            fewer = rows[:place] + rows[place + 1:]
            self.assertFalse(leads(self.RULES, benches[0], benches[1], fewer, benches[2], benches[3]), rows)

    def test_keys(self):
        for keys, other_keys in itertools.product(all_benches()[0], repeat=2):
            self.assert_led(keys, {}, other_keys, {})

    def test_doors(self):
        for doors in all_benches()[1:]:
            for barrels, other_barrels in itertools.product(doors, repeat=2):
                self.assert_led({}, barrels, {}, other_barrels)

    def test_keys_and_doors(self):
        keys, barrels, _ = all_benches()
        for one, other in itertools.product(keys[::7], repeat=2):
            for barrel, goal in itertools.product(barrels[::3], repeat=2):
                self.assert_led(one, barrel, other, goal)


if __name__ == "__main__":
    unittest.main()
