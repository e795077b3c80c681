"""The errors that the interface lists."""

import unittest

from partways import errors


class ErrorsTest(unittest.TestCase):
    def test_each_stands_straight_under_the_one(self):
        self.assertEqual(errors.PartsError.__bases__, (ValueError,))
        for kind in [errors.BadSum, errors.BadNumber, errors.NotSuch, errors.TooMany]:
            self.assertEqual(kind.__bases__, (errors.PartsError,))
            self.assertEqual(kind.__module__, "partways.errors")

    def test_one_is_not_caught_as_another(self):
        kinds = [errors.BadSum, errors.BadNumber, errors.NotSuch, errors.TooMany]
        for kind in kinds:
            with self.assertRaises(errors.PartsError) as caught:
                raise kind("so")
            self.assertEqual([isinstance(caught.exception, other) for other in kinds],
                             [other is kind for other in kinds])


if __name__ == "__main__":
    unittest.main()
