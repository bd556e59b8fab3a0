import unittest

from planeyard import errors

NAMES = ("NoNet", "NoText", "NoRing", "NoEdge", "NoFace", "NoRoom")


class Errors(unittest.TestCase):
    def test_yard_error_stands_straight_under_value_error(self):
        self.assertEqual(errors.YardError.__bases__, (ValueError,))

    def test_each_refusal_is_a_yard_error(self):
        for name in NAMES:
            with self.subTest(name=name):
                self.assertTrue(issubclass(getattr(errors, name), errors.YardError))

    def test_none_stands_below_another(self):
        for name in NAMES:
            for other in NAMES:
                if name != other:
                    with self.subTest(name=name, other=other):
                        self.assertFalse(issubclass(getattr(errors, name), getattr(errors, other)))

    def test_each_is_taken_by_its_own_name_and_those_above(self):
        for name in NAMES:
            for taken in (getattr(errors, name), errors.YardError, ValueError):
                with self.subTest(name=name, taken=taken), self.assertRaises(taken):
                    raise getattr(errors, name)("words")


if __name__ == "__main__":
    unittest.main()
