import unittest

from queuehold import errors
from queuehold.errors import QueueError

NAMES = [
    "BadName", "Missing", "There", "Stopped", "Broken", "BadRow", "BadSettings", "BadBody", "BadHand", "BadNumber",
    "NotHeld", "BadDeed",
]


class ErrorsTest(unittest.TestCase):
    def test_queue_error_stands_straight_under_value_error(self):
        self.assertEqual(QueueError.__bases__, (ValueError,))

    def test_each_stands_straight_under_queue_error(self):
        for name in NAMES:
            with self.subTest(name):
                self.assertEqual(getattr(errors, name).__bases__, (QueueError,))
                self.assertTrue(issubclass(getattr(errors, name), ValueError))

    def test_none_stands_under_another(self):
        for one in NAMES:
            for other in NAMES:
                with self.subTest(one=one, other=other):
                    under = issubclass(getattr(errors, one), getattr(errors, other))
                    self.assertEqual(under, one == other)

    def test_each_can_be_raised_with_free_words_and_taken_as_any_refusal(self):
        for name in NAMES:
            for base in (QueueError, ValueError):
                with self.subTest(name=name, base=base), self.assertRaises(base):
                    raise getattr(errors, name)("some words")


if __name__ == "__main__":
    unittest.main()
