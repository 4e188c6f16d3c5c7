"""The interface's errors: RoadError and the twelve classes under it."""

import unittest

from fractionroads import errors

NAMES = ("NoPlace", "NoLevel", "NoSymbol", "NoEnd", "Apart", "NoRow",
         "NotClosed", "NoDeed", "NoPart", "NoForm", "NoText", "NoName")


class TestErrors(unittest.TestCase):
    def test_road_error_is_a_value_error(self):
        self.assertEqual(errors.RoadError.__bases__, (ValueError,))

    def test_each_stands_straight_under_road_error(self):
        for name in NAMES:
            with self.subTest(name):
                self.assertEqual(getattr(errors, name).__bases__, (errors.RoadError,))

    def test_none_stands_under_another_one(self):
        classes = [getattr(errors, name) for name in NAMES]
        self.assertEqual(len(set(classes)), 12)
        for one in classes:
            for other in classes:
                self.assertEqual(issubclass(one, other), one is other)

    def test_each_is_raised_with_words_and_caught_as_any_refusal(self):
        for name in NAMES:
            with self.subTest(name):
                with self.assertRaises(errors.RoadError) as caught:
                    raise getattr(errors, name)("why")
                self.assertEqual(str(caught.exception), "why")


if __name__ == "__main__":
    unittest.main()
