"""[0.4] The refusals."""

import unittest

from frozenmakers import errors
from frozenmakers.errors import (
    NoBook, NoFall, NoHouse, NoLog, NoMaker, NoName, NoPost, NoRow, NoTable, NoText, NoThaw, NoThings, NoWay,
    NoWorth, Pinned, Shared, StillError, TooLong,
)
from samples import things

FIELDS = {
    "at": [NoBook, NoThaw, NoLog], "row": [NoText], "name": [NoName, NoTable], "most": [TooLong],
    "number": [NoMaker, NoRow, Pinned, Shared, NoHouse], "house": [NoPost],
}
TEXTS = [NoThings, NoWorth, NoWay, NoFall]


class Refusals(unittest.TestCase):
    def test_all_seventeen_are_there_and_no_more(self):
        told = [each for row in FIELDS.values() for each in row] + TEXTS
        self.assertEqual(17, len(set(told)))
        found = [each for each in vars(errors).values() if isinstance(each, type)]
        self.assertEqual(set(told) | {StillError}, set(found))

    def test_each_stands_right_under_still_error(self):
        self.assertEqual((ValueError,), StillError.__bases__)
        for row in [*FIELDS.values(), TEXTS]:
            for each in row:
                self.assertEqual((StillError,), each.__bases__, each)

    def test_fields_by_place_and_by_name(self):
        for field, row in FIELDS.items():
            for each in row:
                for error in (each(3), each(**{field: 3})):
                    self.assertEqual({field: 3}, vars(error), each)
                    self.assertIsInstance(error, ValueError)

    def test_a_field_is_needed_and_one_alone(self):
        for row in FIELDS.values():
            for each in row:
                self.assertRaises(TypeError, each)
                self.assertRaises(TypeError, each, 1, 2)
                self.assertRaises(TypeError, each, other=1)

    def test_fields_of_any_kind_stay_as_they_are(self):
        for field in ("name", "number", "house"):
            for each in FIELDS[field]:
                for thing in things():
                    self.assertIs(thing, vars(each(thing))[field])
                    self.assertIsInstance(str(each(thing)), str)

    def test_those_without_a_field_are_made_of_a_text(self):
        for each in TEXTS:
            self.assertEqual("why it is so", str(each("why it is so")))
            self.assertEqual({}, vars(each("why it is so")))

    def test_they_are_caught_as_still_error(self):
        for error in [NoBook(0), NoText(1), NoWay("none"), NoFall("none")]:
            with self.assertRaises(StillError):
                raise error


if __name__ == "__main__":
    unittest.main()
