"""[3]: the errors."""

import unittest

from dutyweeks import errors
from tests.samples import nested, own_objects

FIELDS = {
    "InvalidNumber": "value", "InvalidTable": "value", "InvalidRow": "value", "InvalidRules": "value",
    "InvalidMachines": "value", "InvalidWants": "value", "InvalidRota": "value", "InvalidDislikes": "value",
    "InvalidLoads": "value", "InvalidFixed": "value", "InvalidSkills": "value", "InvalidPosts": "value",
    "InvalidJobs": "value", "InvalidPart": "value", "InvalidQuestion": "value", "InvalidClaim": "value",
    "TooLarge": "many", "Undefined": "what", "NothingToUndo": "word",
}


class ErrorsTest(unittest.TestCase):
    def test_just_these_classes_stand_in_the_file(self):
        classes = {name for name, thing in vars(errors).items() if isinstance(thing, type)}
        self.assertEqual(classes, set(FIELDS) | {"DutyError"})
        for name in classes:
            self.assertEqual(getattr(errors, name).__module__, "dutyweeks.errors")

    def test_duty_error_stands_under_value_error(self):
        self.assertEqual(errors.DutyError.__bases__, (ValueError,))

    def test_each_stands_under_duty_error_and_no_other(self):
        classes = [getattr(errors, name) for name in FIELDS]
        for one in classes:
            self.assertTrue(issubclass(one, errors.DutyError))
            self.assertTrue(issubclass(one, ValueError))
            for other in classes:
                self.assertEqual(issubclass(one, other), one is other)

    def test_each_keeps_its_argument_itself(self):
        values = [None, True, 0, "undo", [1, [2]], (3,), nested(60), (0,) * 30000, "%s {}"] + own_objects()
        for name, field in FIELDS.items():
            made = getattr(errors, name)
            for value in values:
                self.assertIs(getattr(made(value), field), value)
                self.assertIs(getattr(made(**{field: value}), field), value)
                self.assertEqual(vars(made(value)), {field: value})
                self.assertIsInstance(str(made(value)), str)

    def test_each_takes_one_argument(self):
        for name in FIELDS:
            with self.assertRaises(TypeError):
                getattr(errors, name)()
            with self.assertRaises(TypeError):
                getattr(errors, name)(1, 2)

    def test_each_is_caught_as_a_value_error(self):
        for name in FIELDS:
            with self.assertRaises(ValueError):
                raise getattr(errors, name)(1)


if __name__ == "__main__":
    unittest.main()
