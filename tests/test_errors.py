import unittest

from wardsmith import errors

OF_A_TEXT = ["NoRules", "NoCuts", "NoBarrel", "NoSuch", "TooFlat", "Shallow", "NoDeed", "NoThing", "NoPlan", "Wrong",
             "NoSay"]

OF_FIELDS = {
    "TooHigh": {"place": 3},
    "NoRow": {"row": 7},
    "Twice": {"name": "front"},
    "Unknown": {"name": "attic"},
    "Shared": {"name": "west"},
    "Ring": {"ring": ["east", "west"]},
    "Steep": {"door": "front", "place": 2},
    "NoTower": {"one": "anna", "other": "bert"},
    "TooNarrow": {"need": 9},
}


class Classes(unittest.TestCase):
    def test_the_base_is_a_value_error(self):
        self.assertEqual(errors.SmithError.__bases__, (ValueError,))
        self.assertEqual(str(errors.SmithError("why")), "why")

    def test_each_class_stands_straight_under_the_base(self):
        for name in OF_A_TEXT + list(OF_FIELDS):
            with self.subTest(name):
                self.assertEqual(getattr(errors, name).__bases__, (errors.SmithError,))

    def test_there_are_no_others(self):
        found = [name for name, thing in vars(errors).items() if isinstance(thing, type)]
        self.assertEqual(sorted(found), sorted(["SmithError"] + OF_A_TEXT + list(OF_FIELDS)))

    def test_those_without_fields_are_made_of_a_text(self):
        for name in OF_A_TEXT:
            with self.subTest(name):
                self.assertEqual(str(getattr(errors, name)("why it is so")), "why it is so")


class Fields(unittest.TestCase):
    def test_fields_are_held_in_the_order_told(self):
        for name, fields in OF_FIELDS.items():
            with self.subTest(name):
                error = getattr(errors, name)(*fields.values())
                self.assertEqual(vars(error), fields)

    def test_fields_are_the_arguments_names(self):
        for name, fields in OF_FIELDS.items():
            with self.subTest(name):
                self.assertEqual(vars(getattr(errors, name)(**fields)), fields)

    def test_made_of_just_these(self):
        for name, fields in OF_FIELDS.items():
            with self.subTest(name):
                values = list(fields.values())
                self.assertRaises(TypeError, getattr(errors, name), *values[:-1])
                self.assertRaises(TypeError, getattr(errors, name), *values, "more")

    def test_they_are_raised_and_taken_with_their_fields(self):
        for name, fields in OF_FIELDS.items():
            with self.subTest(name):
                with self.assertRaises(errors.SmithError) as taken:
                    raise getattr(errors, name)(*fields.values())
                self.assertEqual(vars(taken.exception), fields)
                self.assertNotEqual(str(taken.exception), "")

    def test_no_tower_without_keys(self):
        error = errors.NoTower(None, None)
        self.assertIsNone(error.one)
        self.assertIsNone(error.other)

    def test_place_and_row_naught(self):
        self.assertEqual(errors.TooHigh(0).place, 0)
        self.assertEqual(errors.NoRow(0).row, 0)
        self.assertEqual(errors.Steep("front", 0).place, 0)

    def test_the_ring_is_the_askers_own(self):
        handed = ["east", "west"]
        error = errors.Ring(handed)
        self.assertIsInstance(error.ring, list)
        error.ring.append("north")
        self.assertEqual(handed, ["east", "west"])


if __name__ == "__main__":
    unittest.main()
