"""The error classes, their attributes and their order."""

import unittest

from loopstow import errors
from loopstow.errors import StowError

FIELDS = {
    "BadName": "value", "BadDeed": "value", "BadMove": "value", "BadNumber": "value", "BadPrice": "value",
    "BadPlace": "value", "BadPart": "part", "BadSlots": "value", "BadStanding": "value", "BadRule": "value",
    "Twice": "name", "TooMany": "most", "Unmade": "place name", "MadeAgain": "place name", "NoRoom": "place",
    "Crowded": "place", "Barred": "word name", "BadPlan": "at index word name", "NoLoop": "", "HasLoop": "",
    "OneLoop": "", "TwoLoops": "", "Finished": "", "BadText": "line word", "BadLine": "word",
}


class Errors(unittest.TestCase):
    def test_base(self):
        self.assertEqual(StowError.__bases__, (ValueError,))

    def test_all_stand_directly_below_the_base(self):
        found = [one for one in vars(errors).values() if isinstance(one, type) and one is not StowError]
        self.assertEqual(sorted(one.__name__ for one in found), sorted(FIELDS))
        for one in found:
            self.assertEqual(one.__bases__, (StowError,))
            self.assertEqual(one.__module__, "loopstow.errors")

    def test_fields(self):
        for name, words in FIELDS.items():
            fields = words.split()
            values = [object() for _ in fields]
            told = getattr(errors, name)(*values)
            self.assertEqual(vars(told), dict(zip(fields, values)), name)
            self.assertEqual(told.class_name(), name)
            self.assertEqual(vars(getattr(errors, name)(**dict(zip(fields, values)))), dict(zip(fields, values)))
            with self.assertRaises(TypeError):
                getattr(errors, name)(*values, *([1] if fields else []), **({} if fields else {"value": 1}))


if __name__ == "__main__":
    unittest.main()
