"""The error classes. (0.3 and the interface)"""

import inspect
import unittest

from levelkin import errors
from levelkin.errors import KinError

from tests.things import wrong_things

FIELDS = {
    "BadWeb": ("part",), "BadBase": ("part",), "BadPlay": ("who", "turns"), "BadMachine": ("round", "place"),
    "BadTeller": ("asked",), "BadText": ("line",), "BadSaying": ("place",), "TooMany": ("most",),
    "TooLong": ("most",), "NoOrder": (), "Full": (), "NoRow": (), "NoWebs": (), "NoLevel": (), "NoSaying": (),
    "NoPlaces": (), "NoName": (), "NoNumber": (), "OtherWeb": (), "Over": (), "NoTurn": (), "NoPlace": (),
    "NoIndex": (), "NoTwists": (), "NoTie": (), "NoMachine": (), "NoText": (), "NoWeb": (), "Fallen": (),
    "NoLine": (), "NothingDone": (),
}


class Errors(unittest.TestCase):
    def test_just_these_classes_are_there(self):
        there = {name for name, _ in inspect.getmembers(errors, inspect.isclass)}
        self.assertEqual(there, {*FIELDS, "KinError"})

    def test_each_is_defined_in_this_file(self):
        for name in [*FIELDS, "KinError"]:
            self.assertEqual(getattr(errors, name).__module__, "levelkin.errors")

    def test_each_derives_directly_from_kin_error(self):
        self.assertEqual(KinError.__bases__, (ValueError,))
        for name in FIELDS:
            self.assertEqual(getattr(errors, name).__bases__, (KinError,))

    def test_each_keeps_just_its_fields_as_passed(self):
        things = wrong_things()
        for name, fields in FIELDS.items():
            for at, thing in enumerate(things):
                passed = [thing, things[at - 1]][:len(fields)]
                error = getattr(errors, name)(*passed)
                self.assertEqual(set(vars(error)), set(fields), name)
                for field, one in zip(fields, passed):
                    self.assertIs(getattr(error, field), one, name)

    def test_each_is_made_with_just_its_fields(self):
        for name, fields in FIELDS.items():
            with self.assertRaises(TypeError):
                getattr(errors, name)(*[0] * (len(fields) + 1))
            if fields:
                with self.assertRaises(TypeError):
                    getattr(errors, name)(*[0] * (len(fields) - 1))

    def test_each_can_be_raised_and_told_as_words(self):
        for name, fields in FIELDS.items():
            for thing in wrong_things():
                with self.assertRaises(ValueError) as caught:
                    raise getattr(errors, name)(*[thing] * len(fields))
                self.assertIs(type(caught.exception), getattr(errors, name))
                self.assertIsInstance(str(caught.exception), str)


if __name__ == "__main__":
    unittest.main()
