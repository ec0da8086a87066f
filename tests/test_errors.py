"""The error classes, and point [2] about them."""

import unittest

from nestedwishes import errors

NAMES = [
    "BadSchema", "BadShape", "NoBase", "NoField", "BadQuestion", "NoPlace", "Unlike", "UnlikeSchemas", "BadFlags",
    "BadStore", "NoThing", "Clash", "Unclear", "TooMany", "BadNumber", "BadName", "NoWatch", "NoText",
]
ATTRIBUTES = {
    "BadSchema": ["part", "name"], "NoBase": ["base"], "NoField": ["base", "field"], "BadQuestion": ["place"],
    "NoPlace": ["place"], "Unlike": ["part"], "BadStore": ["thing", "field"], "NoThing": ["thing"], "Clash": ["way"],
    "Unclear": ["way"], "TooMany": ["most"], "BadName": ["name"], "NoWatch": ["name"], "NoText": ["line"],
}


class ErrorClasses(unittest.TestCase):
    def test_wish_error_derives_from_value_error(self):
        self.assertEqual(errors.WishError.__bases__, (ValueError,))

    def test_every_error_derives_from_wish_error_alone(self):
        for name in NAMES:
            with self.subTest(name):
                self.assertEqual(getattr(errors, name).__bases__, (errors.WishError,))

    def test_every_error_is_defined_in_this_module(self):
        for name in ["WishError", *NAMES]:
            with self.subTest(name):
                self.assertEqual(getattr(errors, name).__module__, "nestedwishes.errors")

    def test_errors_keep_their_attributes(self):
        for name, attributes in ATTRIBUTES.items():
            with self.subTest(name):
                given = [object() for _ in attributes]
                error = getattr(errors, name)(*given)
                for attribute, value in zip(attributes, given):
                    self.assertIs(getattr(error, attribute), value)


if __name__ == "__main__":
    unittest.main()
