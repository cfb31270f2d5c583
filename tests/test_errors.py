"""[4]: the fourteen refusals, each a class of its own, with their fields."""

import unittest

from lookthrough import errors

FIELDS = {
    "NoRow": "at", "NoMoves": None, "NoChoice": "at", "NoPlayers": None, "NoLevel": "level",
    "NoSeat": "seat", "NoText": "row", "NoLetter": "at", "NoStand": None, "NoMachine": "at",
    "NoWorths": None, "NoName": "name", "NoDeed": "at", "TooLong": "most",
}


def made(name, value):
    field = FIELDS[name]
    kind = getattr(errors, name)
    return kind() if field is None else kind(value)


class Refusals(unittest.TestCase):

    def test_there_are_just_these(self):
        found = [name for name, thing in vars(errors).items() if isinstance(thing, type)]
        self.assertEqual(sorted(found), sorted(["SightError", *FIELDS]))
        self.assertEqual(len(FIELDS), 14)

    def test_the_first_class_is_a_value_error(self):
        self.assertEqual(errors.SightError.__bases__, (ValueError,))

    def test_each_stands_straight_under_the_first(self):
        for name in FIELDS:
            with self.subTest(name):
                self.assertEqual(getattr(errors, name).__bases__, (errors.SightError,))
                self.assertEqual(getattr(errors, name).__module__, "lookthrough.errors")

    def test_each_is_a_class_of_its_own(self):
        for name in FIELDS:
            for other in FIELDS:
                with self.subTest(name, other=other):
                    refusal = made(name, 3)
                    self.assertEqual(isinstance(refusal, getattr(errors, other)), name == other)

    def test_each_is_caught_by_all_its_classes(self):
        for name in FIELDS:
            for kind in (getattr(errors, name), errors.SightError, ValueError):
                with self.subTest(name, kind=kind), self.assertRaises(kind):
                    raise made(name, 5)

    def test_each_has_its_field_and_no_other(self):
        for name, field in FIELDS.items():
            for value in (0, 7, -1, 2000, "name", None, True, ("put", "x"), [1]):
                with self.subTest(name, value=value):
                    told = {} if field is None else {field: value}
                    self.assertEqual(vars(made(name, value)), told)
                    if field is not None:
                        self.assertIs(getattr(made(name, value), field), value)

    def test_a_field_goes_by_its_name(self):
        for name, field in FIELDS.items():
            if field is not None:
                with self.subTest(name):
                    refusal = getattr(errors, name)(**{field: 12})
                    self.assertEqual(getattr(refusal, field), 12)


if __name__ == "__main__":
    unittest.main()
