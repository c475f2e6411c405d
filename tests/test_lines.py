"""[4] Addresses, lines, spots and words."""

import random
import unittest

from linewarden.lines import address_of, blank_words, line_of, put_in, spot_of

WIDTHS = range(1, 17)
LARGEST = 10 ** 60 - 1


def numbers_below(bound):
    """Small numbers, those beside each power of ten, and some chosen ones, the same at each run."""
    chosen = random.Random(4)
    found = list(range(70)) + [bound - 2, bound - 1]
    for figures in range(1, 61):
        for number in (10 ** figures - 1, 10 ** figures, 10 ** figures + 1, chosen.randrange(10 ** figures)):
            if number < bound:
                found.append(number)
    return found


class TestAddresses(unittest.TestCase):
    def assert_whole(self, number):
        self.assertIs(type(number), int)

    def test_told_examples(self):
        self.assertEqual((line_of(0, 1), spot_of(0, 1)), (0, 0))
        self.assertEqual((line_of(7, 1), spot_of(7, 1)), (7, 0))
        self.assertEqual((line_of(3, 4), spot_of(3, 4)), (0, 3))
        self.assertEqual((line_of(4, 4), spot_of(4, 4)), (1, 0))
        self.assertEqual((line_of(11, 4), spot_of(11, 4)), (2, 3))
        self.assertEqual((line_of(LARGEST, 10), spot_of(LARGEST, 10)), (10 ** 59 - 1, 9))
        self.assertEqual(address_of(0, 0, 1), 0)
        self.assertEqual(address_of(2, 3, 4), 11)
        self.assertEqual(address_of(10 ** 58, 9, 10), 10 ** 59 + 9)

    def test_line_and_spot_lead_back_to_the_address(self):
        for width in WIDTHS:
            for address in numbers_below(10 ** 60):
                with self.subTest(width=width, address=address):
                    line, spot = line_of(address, width), spot_of(address, width)
                    self.assert_whole(line)
                    self.assert_whole(spot)
                    self.assertGreaterEqual(spot, 0)
                    self.assertLess(spot, width)
                    self.assertEqual(line * width + spot, address)
                    self.assertEqual(address_of(line, spot, width), address)

    def test_the_address_leads_back_to_line_and_spot(self):
        for width in WIDTHS:
            for line in numbers_below(10 ** 58) + [10 ** 58]:
                for spot in sorted({0, width // 2, width - 1}):
                    with self.subTest(width=width, line=line, spot=spot):
                        address = address_of(line, spot, width)
                        self.assert_whole(address)
                        self.assertEqual(line_of(address, width), line)
                        self.assertEqual(spot_of(address, width), spot)

    def test_arguments_have_their_names(self):
        self.assertEqual(line_of(address=11, width=4), 2)
        self.assertEqual(spot_of(address=11, width=4), 3)
        self.assertEqual(address_of(line=2, spot=3, width=4), 11)
        self.assertEqual(blank_words(width=2), (0, 0))
        self.assertEqual(put_in(words=(5, 6), spot=1, value=7), (5, 7))


class TestWords(unittest.TestCase):
    def test_blank_words_are_so_many_noughts(self):
        for width in WIDTHS:
            with self.subTest(width=width):
                words = blank_words(width)
                self.assertIs(type(words), tuple)
                self.assertEqual(len(words), width)
                for word in words:
                    self.assertIs(type(word), int)
                    self.assertEqual(word, 0)

    def test_put_in_changes_its_spot_alone(self):
        values = (0, 1, -1, 9, 10 ** 59, -(10 ** 59), LARGEST, -LARGEST)
        for width in WIDTHS:
            for spot in range(width):
                for value in values:
                    with self.subTest(width=width, spot=spot, value=value):
                        self.check_put_in(width, spot, value)

    def check_put_in(self, width, spot, value):
        words = tuple(1000 + place if place % 2 else -LARGEST + place for place in range(width))
        kept = list(words)
        told = put_in(words, spot, value)
        self.assertIs(type(told), tuple)
        self.assertEqual(list(told), kept[:spot] + [value] + kept[spot + 1:])
        self.assertEqual(len(told), width)
        self.assertEqual(list(words), kept)

    def test_put_in_again_at_the_same_and_at_another_spot(self):
        first = put_in(blank_words(3), 1, 5)
        self.assertEqual(put_in(first, 1, -6), (0, -6, 0))
        self.assertEqual(put_in(first, 2, -6), (0, 5, -6))
        self.assertEqual(put_in(first, 1, 5), first)
        self.assertEqual(first, (0, 5, 0))
        self.assertEqual(blank_words(3), (0, 0, 0))


if __name__ == "__main__":
    unittest.main()
