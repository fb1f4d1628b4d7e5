"""The interface: lampfloor/errors.py."""

import unittest

from lampfloor import errors

BELOW = ["OffFloor", "InWall", "NotWall", "NoStep", "NoWay", "TooMany", "NoText"]


class ErrorClasses(unittest.TestCase):
    def test_lamp_error_stands_under_value_error(self):
        self.assertEqual(errors.LampError.__bases__, (ValueError,))

    def test_each_stands_under_lamp_error(self):
        for name in BELOW:
            with self.subTest(name):
                self.assertTrue(issubclass(getattr(errors, name), errors.LampError))
                self.assertIsNot(getattr(errors, name), errors.LampError)

    def test_none_stands_under_another(self):
        for one in BELOW:
            for other in BELOW:
                if one != other:
                    with self.subTest(one=one, other=other):
                        self.assertFalse(issubclass(getattr(errors, one), getattr(errors, other)))

    def test_each_is_taken_by_its_own_name_and_as_any_refusal(self):
        for name in BELOW:
            for taken in (getattr(errors, name), errors.LampError, ValueError):
                with self.subTest(name=name, taken=taken):
                    with self.assertRaises(taken):
                        raise getattr(errors, name)("why")


if __name__ == "__main__":
    unittest.main()
