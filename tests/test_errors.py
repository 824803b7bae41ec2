"""[30]: the error classes."""

import unittest

from levelskins import errors

BELOW = ("Outside", "Doubled", "NothingBack", "Busy", "NoLine")
LOOKUPS = ("NoPoint", "NoPlace", "NoCell")
FIELDS = {
    "Outside": "what", "Doubled": "place", "NoLine": "at", "NoPoint": "point", "NoPlace": "place", "NoCell": "cell",
}


def named(name):
    return getattr(errors, name)


class Families(unittest.TestCase):
    def test_skin_error_is_a_value_error(self):
        self.assertTrue(issubclass(errors.SkinError, ValueError))
        self.assertFalse(issubclass(errors.SkinError, LookupError))

    def test_five_are_below_skin_error(self):
        for name in BELOW:
            self.assertTrue(issubclass(named(name), errors.SkinError), name)
            self.assertFalse(issubclass(named(name), LookupError), name)

    def test_three_are_lookup_errors_only(self):
        for name in LOOKUPS:
            self.assertTrue(issubclass(named(name), LookupError), name)
            self.assertFalse(issubclass(named(name), ValueError), name)

    def test_none_is_below_another_one(self):
        for one in BELOW + LOOKUPS:
            for other in BELOW + LOOKUPS:
                self.assertEqual(issubclass(named(one), named(other)), one == other, (one, other))

    def test_each_is_defined_there(self):
        for name in ("SkinError",) + BELOW + LOOKUPS:
            self.assertEqual(named(name).__module__, "levelskins.errors")


class Fields(unittest.TestCase):
    def test_each_has_its_field(self):
        for name, field in FIELDS.items():
            for told in (0, -10 ** 39, (1, 2, 3), ((0, 0, 0), 4)):
                error = named(name)(told)
                self.assertEqual(vars(error), {field: told}, name)

    def test_field_by_its_name(self):
        for name, field in FIELDS.items():
            self.assertEqual(getattr(named(name)(**{field: 7}), field), 7)

    def test_each_can_be_raised_and_caught(self):
        for name, field in FIELDS.items():
            with self.assertRaises(named(name)) as caught:
                raise named(name)(5)
            self.assertEqual(getattr(caught.exception, field), 5)

    def test_those_without_a_field(self):
        for name in ("NothingBack", "Busy"):
            with self.assertRaises(errors.SkinError) as caught:
                raise named(name)()
            self.assertIs(type(caught.exception), named(name))


if __name__ == "__main__":
    unittest.main()
