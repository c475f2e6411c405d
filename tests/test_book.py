"""[12] Sets of nears, each kept as one whole number."""

import unittest

from linewarden.book import count_in, nears_in, with_near, without_near

ALL = 2 ** 64 - 1


def bits_of(nears):
    """The number for a set, by the worth of each place."""
    return sum(2 ** near for near in set(nears))


def some_sets():
    """Sets of many sizes, chosen by rule."""
    yield from ([], [0], [63], [0, 63], [1], [62], list(range(64)), list(range(63)), list(range(1, 64)))
    yield from (list(range(0, 64, step)) for step in (2, 3, 5, 7, 31))
    yield from ([near for near in range(64) if near * factor % 11 < 4] for factor in range(1, 8))
    yield from ([near] for near in range(64))


class TestBook(unittest.TestCase):
    def test_the_numbers_as_told(self):
        self.assertEqual(with_near(0, 0), 1)
        self.assertEqual(with_near(0, 3), 8)
        self.assertEqual(with_near(1, 1), 3)
        self.assertEqual(with_near(8, 3), 8)
        self.assertEqual(without_near(13, 2), 9)
        self.assertEqual(without_near(13, 1), 13)
        self.assertEqual(nears_in(13), [0, 2, 3])
        self.assertEqual(count_in(13), 3)

    def test_near_63(self):
        self.assertEqual(with_near(0, 63), 9223372036854775808)
        self.assertEqual(nears_in(9223372036854775808), [63])
        self.assertEqual(count_in(9223372036854775808), 1)
        self.assertEqual(without_near(9223372036854775808, 63), 0)
        self.assertEqual(with_near(9223372036854775808, 63), 9223372036854775808)

    def test_the_empty_set(self):
        self.assertEqual((nears_in(0), count_in(0)), ([], 0))
        for near in range(64):
            self.assertEqual(without_near(0, near), 0)
            self.assertEqual(nears_in(with_near(0, near)), [near])

    def test_the_set_of_all(self):
        self.assertEqual((nears_in(ALL), count_in(ALL)), (list(range(64)), 64))
        for near in range(64):
            self.assertEqual(with_near(ALL, near), ALL)
            self.assertEqual(nears_in(without_near(ALL, near)), [other for other in range(64) if other != near])
            self.assertEqual(count_in(without_near(ALL, near)), 63)

    def test_in_and_out_of_many_sets(self):
        for nears in some_sets():
            bits = bits_of(nears)
            self.assertEqual((nears_in(bits), count_in(bits)), (sorted(nears), len(nears)))
            for near in range(64):
                self.assertEqual(with_near(bits, near), bits_of(nears + [near]))
                self.assertEqual(without_near(bits, near), bits_of(set(nears) - {near}))

    def test_put_in_one_by_one_in_any_order(self):
        bits = 0
        for near in (place * 29 % 64 for place in range(64)):
            self.assertNotIn(near, nears_in(bits))
            bits = with_near(bits, near)
            self.assertIn(near, nears_in(bits))
        self.assertEqual(bits, ALL)

    def test_somewhat_beyond_nothing_is_refused(self):
        self.assertEqual(nears_in(with_near(ALL, 64)), list(range(65)))
        self.assertEqual(without_near(with_near(5, 70), 70), 5)
        self.assertEqual(count_in(with_near(5, 70)), 3)

    def test_kinds(self):
        for told in (with_near(0, 5), without_near(9, 0), without_near(0, 0), count_in(0), count_in(ALL)):
            self.assertIs(type(told), int)
        self.assertIs(type(nears_in(0)), list)
        self.assertEqual({type(near) for near in nears_in(ALL)}, {int})

    def test_arguments_have_their_names(self):
        self.assertEqual(with_near(bits=4, near=1), 6)
        self.assertEqual(without_near(bits=6, near=1), 4)
        self.assertEqual(count_in(bits=6), 2)
        self.assertEqual(nears_in(bits=6), [1, 2])

    def test_a_list_told_is_the_askers_own(self):
        told = nears_in(6)
        told.append(9)
        self.assertEqual(nears_in(6), [1, 2])


if __name__ == "__main__":
    unittest.main()
