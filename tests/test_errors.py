"""The error classes: their family and their fields."""

import inspect
import unittest

from goesnext import errors

ONE_STRING = ["InvalidPermutation", "InvalidNumber", "InvalidWide", "InvalidOutcomes", "InvalidBlock", "OtherSize",
              "NothingToUndo"]
FIELDS = {
    "InvalidPermutations": {"index": 4}, "InvalidRule": {"index": 0}, "InvalidRules": {"index": None},
    "InvalidRow": {"index": 11}, "InvalidRows": {"index": 1}, "InvalidStream": {"index": 399},
    "InvalidTable": {"state": 199}, "NotWhole": {"places": [1, 3]}, "TooMany": {"limit": 2000},
    "WouldGo": {"block": 10 ** 9}, "InvalidText": {"line": 2, "word": 5},
}


class ErrorsTest(unittest.TestCase):
    def test_base(self):
        self.assertEqual(errors.GoesError.__bases__, (ValueError,))
        self.assertEqual(str(errors.GoesError("told")), "told")

    def test_each_is_a_direct_subclass_of_the_base(self):
        for name in ONE_STRING + list(FIELDS):
            with self.subTest(name):
                kind = getattr(errors, name)
                self.assertEqual(kind.__bases__, (errors.GoesError,))
                self.assertEqual((kind.__name__, kind.__module__), (name, "goesnext.errors"))

    def test_there_are_no_others(self):
        found = {name for name, value in vars(errors).items() if inspect.isclass(value)}
        self.assertEqual(found, {"GoesError", *ONE_STRING, *FIELDS})

    def test_none_is_an_instance_of_another_one(self):
        made = [getattr(errors, name)("told") for name in ONE_STRING]
        made += [getattr(errors, name)(**fields) for name, fields in FIELDS.items()]
        for one in made:
            self.assertIsInstance(one, ValueError)
            fitting = [name for name in ONE_STRING + list(FIELDS) if isinstance(one, getattr(errors, name))]
            self.assertEqual(fitting, [type(one).__name__])

    def test_one_string(self):
        for name in ONE_STRING:
            with self.subTest(name):
                self.assertEqual(str(getattr(errors, name)("told")), "told")

    def test_fields_by_position_and_by_name(self):
        for name, fields in FIELDS.items():
            with self.subTest(name):
                kind = getattr(errors, name)
                self.assertEqual(vars(kind(*fields.values())), fields)
                self.assertEqual(vars(kind(**fields)), fields)
                self.assertEqual(list(inspect.signature(kind).parameters), list(fields))

    def test_fields_may_be_none(self):
        for name, fields in FIELDS.items():
            if name not in ("NotWhole", "TooMany", "WouldGo"):
                kind = getattr(errors, name)
                self.assertEqual(vars(kind(*[None for _ in fields])), {field: None for field in fields})

    def test_places_are_not_kept(self):
        places = [0, 2]
        error = errors.NotWhole(places)
        places.append(3)
        self.assertEqual(error.places, [0, 2])
        self.assertIsInstance(error.places, list)


if __name__ == "__main__":
    unittest.main()
