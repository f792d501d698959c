"""Point 2 and the interface of onecable/errors.py."""

import unittest

from onecable import errors

WITH_ATTRIBUTES = {
    "BadRatio": (),
    "BadRow": ("place",),
    "BadRule": ("place",),
    "BadKind": ("part",),
    "BadYard": ("part", "place"),
    "UnknownName": ("name",),
    "BadLine": ("line",),
    "BadClaims": (),
    "BadDay": ("place",),
    "BadPlan": ("part",),
    "NoPlan": ("place",),
    "TooManyStates": ("most",),
    "UnknownState": (),
    "NotHeld": (),
    "Unbeaten": (),
    "Overloaded": ("hours",),
    "Refused": ("place",),
    "NothingToUndo": (),
    "NothingToRedo": (),
}

VALUES = {"place": 3, "part": "menu", "name": "noon", "line": 4, "most": 400, "hours": (0, 2)}


class Errors(unittest.TestCase):
    def test_the_top_class(self):
        self.assertEqual(errors.CableError.__bases__, (ValueError,))
        self.assertIsInstance(errors.CableError("wrong"), ValueError)

    def test_all_stand_side_by_side(self):
        for name in WITH_ATTRIBUTES:
            with self.subTest(name):
                self.assertEqual(getattr(errors, name).__bases__, (errors.CableError,))

    def test_nothing_else_is_an_error_class(self):
        found = [name for name, thing in vars(errors).items() if isinstance(thing, type)]
        self.assertEqual(sorted(found), sorted([*WITH_ATTRIBUTES, "CableError"]))

    def test_defined_in_this_file(self):
        for name in WITH_ATTRIBUTES:
            self.assertEqual(getattr(errors, name).__module__, "onecable.errors")

    def test_attributes(self):
        for name, attributes in WITH_ATTRIBUTES.items():
            with self.subTest(name):
                error = getattr(errors, name)(*[VALUES[attribute] for attribute in attributes])
                self.assertEqual(vars(error), {attribute: VALUES[attribute] for attribute in attributes})

    def test_each_keeps_its_own_value(self):
        self.assertEqual([errors.BadRow(0).place, errors.BadRow(2000).place], [0, 2000])
        wrong = errors.BadYard("kinds", 6)
        self.assertEqual((wrong.part, wrong.place), ("kinds", 6))

    def test_caught_by_their_own_name_only(self):
        for name, attributes in WITH_ATTRIBUTES.items():
            error = getattr(errors, name)(*[VALUES[attribute] for attribute in attributes])
            for other in WITH_ATTRIBUTES:
                self.assertEqual(isinstance(error, getattr(errors, other)), name == other)

    def test_message_is_a_string(self):
        for name, attributes in WITH_ATTRIBUTES.items():
            error = getattr(errors, name)(*[VALUES[attribute] for attribute in attributes])
            self.assertIsInstance(str(error), str)


if __name__ == "__main__":
    unittest.main()
