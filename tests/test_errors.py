import unittest

from nodeladder import errors

NAMES = ("NoMap", "NoOrder", "NoWay", "NoArc", "NoPlace", "NoRoad", "NoLength", "NoDeed", "NoText", "NoRow")


class ErrorsTest(unittest.TestCase):
    def test_ladder_error_stands_straight_under_value_error(self):
        self.assertEqual(errors.LadderError.__bases__, (ValueError,))

    def test_each_stands_straight_under_ladder_error(self):
        for name in NAMES:
            with self.subTest(name):
                self.assertEqual(getattr(errors, name).__bases__, (errors.LadderError,))

    def test_each_bears_its_own_name(self):
        self.assertEqual([getattr(errors, name).__name__ for name in NAMES], list(NAMES))
        self.assertEqual(errors.LadderError.__name__, "LadderError")

    def test_each_is_taken_as_the_wider_ones(self):
        for name in NAMES:
            for wider in (errors.LadderError, ValueError):
                with self.subTest(name, wider=wider):
                    with self.assertRaises(wider):
                        raise getattr(errors, name)("words")

    def test_none_is_taken_as_another_one(self):
        for name in NAMES:
            for other in NAMES:
                with self.subTest(name, other=other):
                    try:
                        raise getattr(errors, name)("words")
                    except getattr(errors, other):
                        taken = True
                    except errors.LadderError:
                        taken = False
                    self.assertEqual(taken, name == other)


if __name__ == "__main__":
    unittest.main()
