import unittest

from namewell import errors

ABOVE = {
    "WellError": "ValueError",
    "NoName": "WellError",
    "NoKind": "WellError",
    "NoZone": "WellError",
    "NoDeed": "WellError",
    "ZoneError": "WellError",
    "BadRow": "ZoneError",
    "BadName": "ZoneError",
    "Outside": "ZoneError",
    "BadCut": "ZoneError",
    "Clash": "ZoneError",
}


class ErrorsTest(unittest.TestCase):
    def test_each_class_stands_under_the_one_told_and_no_other(self):
        for name, base in ABOVE.items():
            with self.subTest(name):
                bases = getattr(errors, name).__bases__
                self.assertEqual([one.__name__ for one in bases], [base])

    def test_zone_errors_have_the_row(self):
        for name, base in ABOVE.items():
            if name == "ZoneError" or base == "ZoneError":
                with self.subTest(name):
                    self.assertEqual(getattr(errors, name)(7).row, 7)
                    self.assertEqual(getattr(errors, name)(0).row, 0)

    def test_the_others_can_be_raised(self):
        for name in ("WellError", "NoName", "NoKind", "NoZone", "NoDeed"):
            with self.subTest(name), self.assertRaises(errors.WellError):
                raise getattr(errors, name)("why")


if __name__ == "__main__":
    unittest.main()
