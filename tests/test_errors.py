import unittest

from samples import REFUSALS
from trueword import errors


class TestErrors(unittest.TestCase):
    def test_every_refusal_is_a_true_error_and_a_value_error(self):
        self.assertTrue(issubclass(errors.TrueError, ValueError))
        for name in REFUSALS:
            with self.subTest(name=name):
                refusal = getattr(errors, name)
                self.assertEqual(refusal.__name__, name)
                self.assertEqual(refusal.__bases__, (errors.TrueError,))
                with self.assertRaises(errors.TrueError):
                    raise refusal("told")
                with self.assertRaises(ValueError):
                    raise refusal("told")

    def test_none_stands_under_another_one(self):
        for name in REFUSALS:
            for other in REFUSALS:
                if name != other:
                    self.assertFalse(issubclass(getattr(errors, name), getattr(errors, other)), (name, other))
            self.assertFalse(issubclass(errors.TrueError, getattr(errors, name)))


if __name__ == "__main__":
    unittest.main()
