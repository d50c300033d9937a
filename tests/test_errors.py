"""The errors stand under SayError and have their attributes."""

import unittest

from soonestsaid import errors

LISTED = {
    "BadTables": ("what",), "BadRow": ("what",), "BadPattern": ("what",), "BadText": ("place",),
    "BadQuestion": ("rule", "what"), "BadDealing": ("what", "at"), "Sealed": ("pattern",), "Forked": ("row",),
    "BadView": ("what", "at"), "Torn": ("row",), "NotLet": ("row",), "NotOpen": ("thing",),
    "BadPaper": ("what", "place"), "NotFlat": (), "BadCouple": ("what",), "UnlikeTables": (), "NoHouse": ("house",),
    "NoHome": ("row",), "NoDeed": ("what", "at"), "NoLetter": ("number",), "BadHouses": (), "TooWide": ("many",),
    "AlreadyThere": ("row",), "NotOfRows": (), "FewRows": (), "BadDeed": (), "NoQuestion": ("name",),
    "TakenName": ("name",), "FullDesk": (), "BadStory": ("line",)}


class ErrorsTest(unittest.TestCase):
    def test_base(self):
        self.assertEqual(errors.SayError.__bases__, (ValueError,))

    def test_each_stands_directly_under_it(self):
        for name in LISTED:
            self.assertEqual(getattr(errors, name).__bases__, (errors.SayError,), name)

    def test_no_other_class(self):
        found = {name for name, thing in vars(errors).items() if isinstance(thing, type)}
        self.assertEqual(found, set(LISTED) | {"SayError"})

    def test_attributes(self):
        for name, attributes in LISTED.items():
            given = [(attribute, 7) for attribute in attributes]
            error = getattr(errors, name)(*range(len(attributes)))
            self.assertEqual(error.__dict__, dict(zip(attributes, range(len(attributes)))))
            self.assertEqual(getattr(errors, name)(**dict(given)).__dict__, dict(given))

    def test_can_be_raised_and_caught(self):
        for name, attributes in LISTED.items():
            with self.assertRaises(errors.SayError) as caught:
                raise getattr(errors, name)(*attributes)
            self.assertIsInstance(str(caught.exception), str)


if __name__ == "__main__":
    unittest.main()
