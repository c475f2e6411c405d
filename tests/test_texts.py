"""[30] Numbers and values as they are written in texts."""

import unittest

from linewarden.errors import NoRow
from linewarden.texts import read_number, read_value
from odd_things import no_texts

RIGHT = {
    "0": 0, "1": 1, "9": 9, "10": 10, "90": 90, "101": 101, "2305": 2305, "1234567890": 1234567890,
    "9" * 60: 10 ** 60 - 1, "1" + "0" * 59: 10 ** 59, "1" + "0" * 58: 10 ** 58}
# Neither numbers nor values, nor values with a sign ahead.
WRONG = (
    "", " ", "\n", "00", "01", "007", "0" * 60, "0" + "9" * 59, "9" * 61, "1" + "0" * 60, "1" * 4301, "1" * 100000,
    "+1", "+0", "+", " 1", "1 ", "1 2", "1\n", "\n1", "1\n2", "1_0", "1_000", "_1", "1_", "_", "1.0", "1.", ".5", "1e3",
    "0x1", "0b1", "0o7", "1a", "a", "a1", "ten", "1,0", "(1)", "'1'", "1-", "1-1", "~", "/", ":", "None", "True", "inf",
    "nan", "1+0", "0.0", "-0.0")
# As figures they are known to some, but no text of a row has them.
OTHER_FIGURES = ("\u00b2", "\u0663", "\uff11", "1\u0663", "\u0967\u0966", "\u00bd", "\u2460", "1\u00a0", "\u22121")


class TextsTest(unittest.TestCase):
    def assert_refused(self, read, thing):
        for again in range(2):
            with self.assertRaises(NoRow) as caught:
                read(thing)
            self.assertIs(type(caught.exception), NoRow)


class TestNumbers(TextsTest):
    def test_numbers(self):
        for text, number in RIGHT.items():
            self.assertEqual(read_number(text), number)
            self.assertIs(type(read_number(text)), int)

    def test_each_length(self):
        for length in range(1, 61):
            self.assertEqual(read_number("7" * length), int("7" * length))
        for length in range(61, 70):
            self.assert_refused(read_number, "7" * length)

    def test_each_sign(self):
        for code in range(128):
            if chr(code) in "0123456789":
                self.assertEqual(read_number(chr(code)), code - 48)
            else:
                self.assert_refused(read_number, chr(code))
                self.assert_refused(read_number, "1" + chr(code))
                self.assert_refused(read_number, chr(code) + "1")
                self.assert_refused(read_number, "1" + chr(code) + "1")

    def test_texts_that_are_no_numbers(self):
        for text in WRONG + OTHER_FIGURES:
            with self.subTest(text=text[:70]):
                self.assert_refused(read_number, text)

    def test_values_with_a_sign_are_no_numbers(self):
        for text in list(RIGHT) + ["", "-", "-1", " "]:
            self.assert_refused(read_number, "-" + text)

    def test_what_is_no_text(self):
        for thing in no_texts() + [b"1", [1], ["1"], ("1",), {"1": True}, {"1"}, bytearray(b"1")]:
            self.assert_refused(read_number, thing)


class TestValues(TextsTest):
    def test_values(self):
        for text, number in RIGHT.items():
            self.assertEqual(read_value(text), number)
            self.assertIs(type(read_value(text)), int)
            if number != 0:
                self.assertEqual(read_value("-" + text), -number)
                self.assertIs(type(read_value("-" + text)), int)

    def test_each_length(self):
        for length in range(1, 61):
            self.assertEqual(read_value("7" * length), int("7" * length))
            self.assertEqual(read_value("-" + "7" * length), -int("7" * length))
        for length in range(61, 70):
            self.assert_refused(read_value, "7" * length)
            self.assert_refused(read_value, "-" + "7" * length)

    def test_each_sign(self):
        for code in range(128):
            if chr(code) not in "0123456789":
                self.assert_refused(read_value, chr(code))
                self.assert_refused(read_value, "1" + chr(code))
                self.assert_refused(read_value, "-" + chr(code))
                self.assert_refused(read_value, "-" + chr(code) + "1")
                self.assert_refused(read_value, "-1" + chr(code))
                self.assert_refused(read_value, chr(code) + "-1")
            if chr(code) not in "0123456789-":
                self.assert_refused(read_value, chr(code) + "1")

    def test_noughts_with_a_sign(self):
        for text in ("-0", "-00", "-01", "-0" + "9" * 59, "-0\n", "- 0", "--0"):
            self.assert_refused(read_value, text)

    def test_texts_that_are_no_values(self):
        for text in WRONG + OTHER_FIGURES:
            with self.subTest(text=text[:70]):
                self.assert_refused(read_value, text)
                self.assert_refused(read_value, "-" + text)

    def test_signs_alone_twice_and_behind(self):
        for text in ("-", "--", "--1", "---1", "-+1", "+-1", "- 1", "-1 ", " -1", "-\n1", "-1\n", "1-", "-1-", "-_1"):
            self.assert_refused(read_value, text)

    def test_what_is_no_text(self):
        for thing in no_texts() + [b"-1", [-1], ["-1"], ("-", "1"), {"-1": True}, {"-1"}, bytearray(b"-1")]:
            self.assert_refused(read_value, thing)


class TestBoth(TextsTest):
    def test_arguments_have_their_names(self):
        self.assertEqual((read_number(text="12"), read_value(text="-12")), (12, -12))

    def test_what_is_handed_in_stays(self):
        for read in (read_number, read_value):
            things = [["1"], {"1": True}]
            for thing in things:
                self.assert_refused(read, thing)
            self.assertEqual(things, [["1"], {"1": True}])


if __name__ == "__main__":
    unittest.main()
