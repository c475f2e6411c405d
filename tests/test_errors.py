"""The refusals: each stands straight under WardenError, none under another."""

import unittest

from linewarden import errors

NAMES = ("NoWord", "NoLetter", "Early", "NoDeed", "Unawaited", "NoHouse", "NoPlace", "TooMany", "NoRow")


class TestErrors(unittest.TestCase):
    def refusals(self):
        return [getattr(errors, name) for name in NAMES]

    def test_warden_error_stands_straight_under_value_error(self):
        self.assertEqual(errors.WardenError.__bases__, (ValueError,))

    def test_each_stands_straight_under_warden_error(self):
        for refusal in self.refusals():
            with self.subTest(refusal=refusal.__name__):
                self.assertEqual(refusal.__bases__, (errors.WardenError,))

    def test_there_are_nine_under_their_names(self):
        self.assertEqual(tuple(refusal.__name__ for refusal in self.refusals()), NAMES)
        self.assertEqual(len(set(self.refusals())), 9)

    def test_each_is_raised_as_itself_and_as_no_other(self):
        for refusal in self.refusals():
            for other in self.refusals():
                with self.subTest(refusal=refusal.__name__, other=other.__name__):
                    self.assertEqual(isinstance(refusal("so"), other), refusal is other)

    def test_each_is_caught_as_itself_as_warden_error_and_as_value_error(self):
        for refusal in self.refusals():
            for caught in (refusal, errors.WardenError, ValueError):
                with self.subTest(refusal=refusal.__name__, caught=caught.__name__):
                    with self.assertRaises(caught):
                        raise refusal("so")

    def test_warden_error_itself_is_none_of_the_nine(self):
        for refusal in self.refusals():
            self.assertNotIsInstance(errors.WardenError("so"), refusal)


if __name__ == "__main__":
    unittest.main()
