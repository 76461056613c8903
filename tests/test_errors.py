import unittest

from roadsall import errors

CLASSES = {
    "NoText": ["place"],
    "NoPlan": [],
    "NoLine": ["line"],
    "NoDeed": [],
    "NotPossible": ["place"],
    "TooMany": [],
    "NoFact": [],
    "NoRow": [],
    "NoThing": [],
}


class ErrorTest(unittest.TestCase):
    def test_each_keeps_its_fields(self):
        for name, fields in CLASSES.items():
            made = getattr(errors, name)(*range(7, 7 + len(fields)))
            for place, field in enumerate(fields):
                self.assertEqual(getattr(made, field), 7 + place, name)

    def test_a_field_is_not_left_out(self):
        for name, fields in CLASSES.items():
            if fields:
                self.assertRaises(TypeError, getattr(errors, name))

    def test_each_stands_under_road_error_alone(self):
        self.assertEqual(errors.RoadError.__bases__, (ValueError,))
        for name in CLASSES:
            self.assertEqual(getattr(errors, name).__bases__, (errors.RoadError,), name)

    def test_none_is_taken_for_another(self):
        for name, fields in CLASSES.items():
            made = getattr(errors, name)(*range(len(fields)))
            self.assertIsInstance(made, errors.RoadError)
            self.assertIsInstance(made, ValueError)
            kin = [other for other in CLASSES if isinstance(made, getattr(errors, other))]
            self.assertEqual(kin, [name])

    def test_no_other_class_is_there(self):
        found = [name for name in vars(errors) if not name.startswith("__")]
        self.assertEqual(sorted(found), sorted(list(CLASSES) + ["RoadError"]))


if __name__ == "__main__":
    unittest.main()
