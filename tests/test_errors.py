import unittest

from unfoldnet import errors

VALUES = {
    "NoNet": {}, "NoText": {}, "NoMove": {"at": 3}, "Held": {"at": 4}, "Full": {"at": 5},
    "Crowded": {"row": ["go", "on"]}, "NoSpot": {}, "Misfit": {}, "Apart": {"one": 1, "other": 6},
    "Twice": {"number": 7}, "NoOccurrence": {}, "Clash": {"one": 8, "other": 2}, "TooMany": {},
    "NoPlace": {}, "NoRow": {}, "NoName": {},
}


class Errors(unittest.TestCase):
    def test_net_error_stands_straight_under_value_error(self):
        self.assertEqual(errors.NetError.__bases__, (ValueError,))

    def test_each_stands_straight_under_net_error(self):
        for name in VALUES:
            with self.subTest(name):
                self.assertEqual(getattr(errors, name).__bases__, (errors.NetError,))

    def test_none_is_one_of_the_others(self):
        for name, values in VALUES.items():
            made = getattr(errors, name)(*values.values())
            kin = [other for other in VALUES if isinstance(made, getattr(errors, other))]
            self.assertEqual(kin, [name])
            self.assertIsInstance(made, errors.NetError)
            self.assertIsInstance(made, ValueError)

    def test_values_are_borne_by_their_names_in_order(self):
        for name, values in VALUES.items():
            made = getattr(errors, name)(*values.values())
            for value in values:
                with self.subTest(name, value=value):
                    self.assertEqual(getattr(made, value), values[value])

    def test_they_are_made_of_their_values_by_name_too(self):
        for name, values in VALUES.items():
            made = getattr(errors, name)(**values)
            self.assertEqual({value: getattr(made, value) for value in values}, values)

    def test_each_is_raised_and_taken_as_net_error(self):
        for name, values in VALUES.items():
            with self.assertRaises(errors.NetError):
                raise getattr(errors, name)(*values.values())

    def test_a_row_handed_in_is_not_kept(self):
        row = ["go", "on"]
        made = errors.Crowded(row)
        words = str(made)
        row.append("far")
        self.assertEqual(made.row, ["go", "on"])
        self.assertEqual(str(made), words)
        made.row.clear()
        self.assertEqual(row, ["go", "on", "far"])


if __name__ == "__main__":
    unittest.main()
