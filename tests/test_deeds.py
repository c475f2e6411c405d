"""[7] Deeds: the four kinds, what they leave behind, and whatever is no deed."""

import unittest

from linewarden.deeds import Deed, deed_of
from linewarden.errors import NoDeed
from odd_things import Agreeing, Untouched, no_texts

LARGEST = 10 ** 60 - 1
ADDRESSES = (0, 1, 7, 10 ** 59, LARGEST)
VALUES = (0, 1, -1, 5, -17, 10 ** 59, -(10 ** 59), LARGEST, -LARGEST)


class Tuple(tuple):
    """A tuple of a class of its own."""


def all_deeds():
    for address in ADDRESSES:
        yield ("read", address)
        for value in VALUES:
            yield ("write", address, value)
            yield ("add", address, value)
            for other in VALUES:
                yield ("swap", address, value, other)


def deeds_of_each_kind():
    return [("read", 3), ("write", 3, -4), ("add", 3, -4), ("swap", 3, -4, 5)]


def with_another_part():
    """Deeds with one part that is of another kind, or an address below 0."""
    no_numbers = ["", "0", "3", 1.0, 3.5, float("nan"), b"3"] + [
        thing for thing in no_texts() if not isinstance(thing, int) or isinstance(thing, bool)]
    for deed in deeds_of_each_kind():
        for place in range(1, len(deed)):
            for thing in no_numbers:
                yield deed[:place] + (thing,) + deed[place + 1:]
        for below in (-1, -2, -(10 ** 59), -LARGEST):
            yield deed[:1] + (below,) + deed[2:]


def with_other_parts_in_number():
    for deed in deeds_of_each_kind():
        for size in range(len(deed)):
            yield deed[:size]
        for more in (0, 1, None, "read", (), deed):
            yield deed + (more,)
        yield deed + (0, 0)
        yield deed[1:]
        yield (deed,)


def with_another_word():
    for deed in deeds_of_each_kind():
        for word in ("", " ", "reads", "rea", "Read", "READ", "read ", " read", "read\n", "back", "own", "took"):
            yield (word,) + deed[1:]
        for word in no_texts():
            yield (word,) + deed[1:]
        yield deed[::-1]
    # Words of other kinds, whose tuples have another length.
    yield ("read", 3, -4)
    yield ("read", 3, -4, 5)
    yield ("write", 3)
    yield ("write", 3, -4, 5)
    yield ("add", 3)
    yield ("add", 3, -4, 5)
    yield ("swap", 3)
    yield ("swap", 3, -4)


def of_another_kind():
    yield from no_texts()
    yield from ("", "read", "read 3", "write", "swap")
    for deed in deeds_of_each_kind():
        yield list(deed)
        yield dict(enumerate(deed))
        yield iter(deed)
        yield deed_of(deed)
        yield str(deed)
        yield [deed]


def no_deeds():
    for things in (with_another_part(), with_other_parts_in_number(), with_another_word(), of_another_kind()):
        yield from things


class TestFourKinds(unittest.TestCase):
    def test_told_again(self):
        for thing in all_deeds():
            deed = deed_of(thing)
            self.assertIsInstance(deed, Deed)
            self.assertIs(type(deed.plain()), tuple)
            self.assertEqual(deed.plain(), thing)
            self.assertEqual(deed.place(), thing[1])
            self.assertIs(type(deed.place()), int)

    def test_wants(self):
        for thing in all_deeds():
            self.assertEqual(deed_of(thing).wants(), "read" if thing[0] == "read" else "write")

    def test_a_swap_that_changes_nothing_wants_to_write(self):
        self.assertEqual(deed_of(("swap", 0, 4, 4)).wants(), "write")
        self.assertEqual(deed_of(("add", 0, 0)).wants(), "write")

    def test_behind_a_read_the_value_is_the_same(self):
        for value in VALUES:
            self.assertEqual(deed_of(("read", 2)).behind(value), value)

    def test_behind_a_write_it_is_the_written_one(self):
        for value in VALUES:
            for written in VALUES:
                self.assertEqual(deed_of(("write", 2, written)).behind(value), written)

    def test_behind_an_add_it_is_both_together(self):
        for value in VALUES:
            for more in VALUES:
                self.assertEqual(deed_of(("add", 2, more)).behind(value), value + more)
        self.assertEqual(deed_of(("add", 0, LARGEST)).behind(1), 10 ** 60)
        self.assertEqual(deed_of(("add", 0, -8)).behind(3), -5)

    def test_behind_a_swap_it_is_the_new_one_just_where_the_old_one_is_met(self):
        for old in VALUES:
            for new in VALUES:
                for value in VALUES:
                    behind = deed_of(("swap", 2, old, new)).behind(value)
                    self.assertEqual(behind, new if value == old else value)
        self.assertEqual(deed_of(("swap", 0, 10 ** 59, 7)).behind(10 ** 59 + 1), 10 ** 59 + 1)

    def test_a_deed_stays_as_it_is(self):
        for thing in deeds_of_each_kind():
            deed = deed_of(thing)
            told = [deed.behind(value) for value in VALUES]
            self.assertEqual([deed.behind(value) for value in VALUES], told)
            self.assertEqual((deed.plain(), deed.place()), (thing, 3))

    def test_two_deeds_have_nothing_in_common(self):
        one, other = deed_of(("add", 1, 2)), deed_of(("add", 3, 4))
        self.assertEqual((one.place(), one.behind(0), other.place(), other.behind(0)), (1, 2, 3, 4))

    def test_a_tuple_of_another_class_is_told_as_a_plain_one(self):
        told = deed_of(Tuple(("write", 1, 2))).plain()
        self.assertIs(type(told), tuple)
        self.assertEqual(told, ("write", 1, 2))

    def test_arguments_have_their_names(self):
        self.assertEqual(deed_of(thing=("add", 1, 2)).behind(value=3), 5)


class TestNoDeeds(unittest.TestCase):
    def test_whatever_is_no_deed_is_refused(self):
        for place, thing in enumerate(no_deeds()):
            with self.subTest(place=place):
                with self.assertRaises(NoDeed) as caught:
                    deed_of(thing)
                self.assertIs(type(caught.exception), NoDeed)

    def test_truths_are_no_numbers(self):
        for truth in (True, False):
            for thing in (("read", truth), ("write", truth, 1), ("write", 1, truth), ("add", truth, 1),
                          ("add", 1, truth), ("swap", truth, 1, 1), ("swap", 1, truth, 1), ("swap", 1, 1, truth)):
                with self.subTest(thing=thing):
                    self.assertRaises(NoDeed, deed_of, thing)

    def test_what_is_like_everything_is_no_part_of_a_deed(self):
        for thing in ((Agreeing(), 1), ("read", Agreeing()), (Untouched(), 1), ("read", Untouched()), Agreeing()):
            self.assertRaises(NoDeed, deed_of, thing)

    def test_what_is_refused_stays_as_it_is(self):
        thing = ["write", 1, [2]]
        self.assertRaises(NoDeed, deed_of, thing)
        self.assertRaises(NoDeed, deed_of, tuple(thing))
        self.assertEqual(thing, ["write", 1, [2]])


if __name__ == "__main__":
    unittest.main()
