"""[29] All orders in which the letters of a house can come."""

import unittest
from functools import partial

from linewarden.errors import TooMany
from linewarden.house import House
from linewarden.looks import is_calm, told_number
from linewarden.orders import all_orders

AWAY = ((), (), ())
CALM_HOME = ((0,), None, (), (), None)
READ_AND_WRITE = [(0, ("read", 0)), (0, ("write", 0, 5))]


def made(sizes, deeds, came=()):
    """A house of which these deeds were asked, and to which letters with these numbers came then."""
    house = House(*sizes)
    for near, deed in deeds:
        house.ask(near, deed)
    for number in came:
        house.come(number)
    return house


def table_of(rows):
    """The ways alone, each as its letter's word, line and near in one text, and the row's number."""
    return [[(" ".join(map(str, letter[:3])), number) for letter, number in ways] for picture, ways in rows]


def told_of(house, nears):
    of_nears = [(house.answers(near), house.waiting(near)) for near in range(nears)]
    return (house.letters(), house.may_come(), house.trail(), house.picture(), of_nears)


def again(make):
    """All orders once more: each row's house is made anew and led there letter by letter."""
    def led(path):
        house = make()
        for letter in path:
            house.come({letter: number for number, letter in house.letters()}[letter])
        return house

    paths, pictures, rows = [()], [make().picture()], []
    while len(rows) < len(paths):
        path = paths[len(rows)]
        house, ways = led(path), []
        letters = [letter for number, letter in house.letters() if number in house.may_come()]
        for word, line, near, words in sorted(letters, key=lambda letter: (letter[1], letter[2], letter[0])):
            letter = (word, line, near, words)
            picture = led(path + (letter,)).picture()
            if picture not in pictures:
                pictures.append(picture)
                paths.append(path + (letter,))
            ways.append((letter, pictures.index(picture)))
        rows.append((pictures[len(rows)], ways))
    return rows


class TestTables(unittest.TestCase):
    def test_a_calm_house(self):
        for sizes in ((1, 1, 1, 1), (3, 2, 2, 1, True), (16, 64, 16, 64)):
            house = House(*sizes)
            for most in (1, 2, 1000):
                self.assertEqual(all_orders(house, most), [(house.picture(), [])])

    def test_a_calm_house_that_was_used(self):
        house = made((2, 2, 1, 1), [(0, ("add", 0, 1))], [1, 2, 3])
        self.assertEqual(all_orders(house, 1), [(house.picture(), [])])

    def test_a_read(self):
        for ordered in (False, True):
            wanting = (((0, "wants read", None),), (), (("read", 0),))
            reading = (((0, "reader", (0,)),), (0,), ())
            granted = ((0,), None, (0,), (), (("read", 0, 0, None), (("took", 0),)))
            letters = [("read", 0, 0, None), ("share", 0, 0, (0,)), ("took", 0, 0, None)]
            self.assertEqual(all_orders(made((1, 1, 1, 1, ordered), READ_AND_WRITE[:1]), 4), [
                (((wanting,), (CALM_HOME,), (letters[0],)), [(letters[0], 1)]),
                (((wanting,), (granted,), (letters[1],)), [(letters[1], 2)]),
                (((reading,), (granted,), (letters[2],)), [(letters[2], 3)]),
                (((reading,), (((0,), None, (0,), (), None),), ()), [])])

    def test_without_order_letters_of_one_road_pass_one_another(self):
        rows = all_orders(made((1, 1, 1, 1), READ_AND_WRITE), 1000)
        self.assertEqual(table_of(rows), [
            [("read 0 0", 1)], [("share 0 0", 2)], [("took 0 0", 3), ("write 0 0", 4)], [("write 0 0", 5)],
            [("took 0 0", 5)], [("own 0 0", 6)], [("took 0 0", 7)], []])
        self.assertEqual(rows[2][0][2], (("took", 0, 0, None), ("write", 0, 0, None)))

    def test_with_order_they_do_not(self):
        rows = all_orders(made((1, 1, 1, 1, True), READ_AND_WRITE), 1000)
        self.assertEqual(table_of(rows), [
            [("read 0 0", 1)], [("share 0 0", 2)], [("took 0 0", 3)], [("write 0 0", 4)], [("own 0 0", 5)],
            [("took 0 0", 6)], []])

    def test_two_nears_that_read_two_lines(self):
        for ordered in (False, True):
            rows = all_orders(made((2, 2, 1, 1, ordered), [(1, ("read", 0)), (0, ("read", 1))]), 16)
            self.assertEqual(table_of(rows), [
                [("read 0 1", 1), ("read 1 0", 2)], [("share 0 1", 3), ("read 1 0", 4)],
                [("read 0 1", 4), ("share 1 0", 5)], [("took 0 1", 6), ("read 1 0", 7)],
                [("share 0 1", 7), ("share 1 0", 8)], [("read 0 1", 8), ("took 1 0", 9)], [("read 1 0", 10)],
                [("took 0 1", 10), ("share 1 0", 11)], [("share 0 1", 11), ("took 1 0", 12)], [("read 0 1", 12)],
                [("share 1 0", 13)], [("took 0 1", 13), ("took 1 0", 14)], [("share 0 1", 14)], [("took 1 0", 15)],
                [("took 0 1", 15)], []])

    def test_two_writers_of_one_line(self):
        for ordered in (False, True):
            rows = all_orders(made((2, 1, 1, 1, ordered), [(1, ("add", 0, 2)), (0, ("add", 0, 1))]), 1000)
            table = table_of(rows)
            self.assertEqual(table[:4], [
                [("write 0 0", 1), ("write 0 1", 2)], [("own 0 0", 3), ("write 0 1", 4)],
                [("write 0 0", 5), ("own 0 1", 6)], [("took 0 0", 7), ("write 0 1", 8)]])
            ends = [picture for picture, ways in rows if ways == []]
            self.assertEqual([[near[0] for near in picture[0]] for picture in ends], [
                [(), ((0, "writer", (3,)),)], [((0, "writer", (3,)),), ()]])


class TestWays(unittest.TestCase):
    def test_sorted_by_line_then_near(self):
        deeds = [(3, ("read", 2)), (0, ("read", 10)), (1, ("read", 2)), (2, ("read", 9))]
        for ordered in (False, True):
            for given in (deeds, deeds[::-1]):
                rows = all_orders(made((4, 12, 1, 1, ordered), given), 1000)
                self.assertEqual(table_of(rows)[0], [
                    ("read 2 1", 1), ("read 2 3", 2), ("read 9 2", 3), ("read 10 0", 4)])

    def test_sorted_by_first_part_whatever_the_numbers(self):
        house = made((1, 2, 1, 1), [(0, ("read", 0)), (0, ("read", 1))], [1, 2])
        self.assertEqual(house.letters(), [(3, ("took", 0, 0, None)), (4, ("back", 0, 0, None))])
        self.assertEqual(table_of(all_orders(house, 100))[0], [("back 0 0", 1), ("took 0 0", 2)])
        ordered = made((1, 2, 1, 1, True), [(0, ("read", 0)), (0, ("read", 1))], [1, 2])
        self.assertEqual(table_of(all_orders(ordered, 100))[0], [("took 0 0", 1)])

    def test_a_letter_to_the_near_and_one_to_the_home_by_first_part(self):
        """Not by road, as in a picture."""
        for ordered in (False, True):
            house = made((2, 1, 1, 1, ordered), [(0, ("read", 0))], [1, 2, 3])
            house.ask(1, ("write", 0, 1))
            house.come(4)
            house.ask(0, ("add", 0, 1))
            rows = all_orders(house, 1000)
            self.assertEqual(rows[0][0][2], (("yield", 0, 0, None), ("write", 0, 0, None)))
            self.assertEqual(table_of(rows)[0], [("write 0 0", 1), ("yield 0 0", 2)])

    def test_letters_bear_their_words(self):
        house = made((2, 1, 2, 1), [(0, ("write", 1, 5))], [1, 2, 3])
        house.ask(1, ("read", 0))
        letters = [letter for picture, ways in all_orders(house, 1000) for letter, number in ways]
        self.assertEqual(letters, [
            ("read", 0, 1, None), ("lower", 0, 0, None), ("lowered", 0, 0, (0, 5)), ("share", 0, 1, (0, 5)),
            ("took", 0, 1, None)])


CASES = (
    ((1, 2, 1, 1), [(0, ("add", 0, 1)), (0, ("read", 1)), (0, ("add", 0, 1))]),
    ((2, 1, 1, 1), [(0, ("add", 0, 1)), (1, ("read", 0)), (0, ("read", 0))]),
    ((2, 2, 1, 1), [(0, ("add", 0, 1)), (1, ("read", 0)), (0, ("read", 1)), (1, ("add", 1, 1))]),
    ((2, 2, 2, 2), [(1, ("write", 3, 1)), (1, ("read", 0)), (0, ("add", 2, 5))]),
    ((3, 1, 1, 1), [(2, ("read", 0)), (1, ("read", 0)), (0, ("swap", 0, 0, 4))]),
    ((3, 3, 1, 1), [(2, ("add", 2, 1)), (1, ("read", 0)), (0, ("read", 1))]))
# Each of these, when it is called, makes a house anew.
MAKERS = [partial(made, sizes + (ordered,), deeds, came)
          for sizes, deeds in CASES for ordered in (False, True) for came in ((), (1,), (1, 2))]


class TestAgain(unittest.TestCase):
    def test_beside_all_orders_made_another_way(self):
        lengths = []
        for make in MAKERS:
            rows = all_orders(make(), 1000)
            self.assertEqual(rows, again(make))
            lengths.append(len(rows))
        self.assertGreater(max(lengths), 100)

    def test_rows(self):
        for make in MAKERS:
            house = make()
            rows = all_orders(house, 1000)
            pictures = [picture for picture, ways in rows]
            self.assertEqual(pictures[0], house.picture())
            self.assertEqual(len({picture: True for picture in pictures}), len(pictures))
            found = []
            for picture, ways in rows:
                self.assertEqual([letter for letter, number in ways], sorted(
                    [letter for letter, number in ways], key=lambda letter: (letter[1], letter[2], letter[0])))
                found += [number for letter, number in ways if number not in found]
            self.assertEqual(found, list(range(1, len(rows))))

    def test_each_row_falls_to_a_calm_one(self):
        for make in MAKERS:
            rows = all_orders(make(), 1000)
            for picture, ways in rows:
                self.assertEqual(is_calm(picture), ways == [])
                for letter, number in ways:
                    self.assertIn(letter, picture[2])
                    self.assertLess(told_number(rows[number][0]), told_number(picture))

    def test_the_house_stays_as_it_is(self):
        for make in MAKERS:
            house, other = make(), make()
            all_orders(house, 1000)
            self.assertEqual(told_of(house, 1), told_of(other, 1))
            while other.letters():
                number = other.may_come()[-1]
                self.assertEqual(house.come(number), other.come(number))
                self.assertEqual(told_of(house, 1), told_of(other, 1))

    def test_the_same_of_a_twin_and_of_numbers_that_differ(self):
        for make in MAKERS:
            self.assertEqual(all_orders(make().twin(), 1000), all_orders(make(), 1000))
        one = made((2, 2, 1, 1), [(0, ("read", 0)), (1, ("read", 1))])
        other = made((2, 2, 1, 1), [(1, ("read", 1)), (0, ("read", 0))])
        self.assertNotEqual(one.letters(), other.letters())
        self.assertEqual(all_orders(one, 16), all_orders(other, 16))


class TestMost(unittest.TestCase):
    def assert_too_many(self, house, most):
        with self.assertRaises(TooMany) as caught:
            all_orders(house, most)
        self.assertIs(type(caught.exception), TooMany)

    def test_just_most_rows_and_one_fewer(self):
        for make in MAKERS:
            house = make()
            rows = all_orders(house, 1000)
            self.assertEqual(all_orders(house, len(rows)), rows)
            self.assertEqual(all_orders(house, len(rows) + 1), rows)
            self.assert_too_many(house, len(rows) - 1)
            self.assert_too_many(house, 1)
            self.assertEqual(told_of(house, 1), told_of(make(), 1))
            self.assertEqual(all_orders(house, len(rows)), rows)

    def test_each_number_that_is_too_small(self):
        house = made((2, 2, 1, 1), [(0, ("read", 0)), (1, ("read", 1))])
        for most in range(1, 16):
            self.assert_too_many(house, most)
        self.assertEqual(len(all_orders(house, 16)), 16)

    def test_a_thousand(self):
        """Of lines that have nothing to do with one another, each read has four steps: 4 to the number of reads."""
        for several, length in ((3, 64), (4, 256)):
            house = made((16, 64, 1, 1), [(near, ("read", near)) for near in range(several)])
            self.assertEqual(len(all_orders(house, 1000)), length)
        house = made((16, 64, 1, 1), [(near, ("read", near)) for near in range(5)])
        self.assert_too_many(house, 1000)
        self.assert_too_many(house, 999)


class TestTold(unittest.TestCase):
    def test_kinds(self):
        rows = all_orders(made((1, 1, 1, 1), READ_AND_WRITE), 100)
        self.assertIs(type(rows), list)
        self.assertEqual({type(row) for row in rows}, {tuple})
        self.assertEqual({(type(picture), type(ways)) for picture, ways in rows}, {(tuple, list)})
        self.assertEqual({(type(way), len(way), type(way[0]), type(way[1])) for picture, ways in rows for way in ways}, {
            (tuple, 2, tuple, int)})

    def test_arguments_have_their_names(self):
        self.assertEqual(len(all_orders(house=House(1, 1, 1, 1), most=1)), 1)

    def test_lists_told_are_the_askers_own(self):
        house = made((2, 1, 1, 1), [(0, ("add", 0, 1)), (1, ("read", 0))])
        rows, kept = all_orders(house, 1000), all_orders(house, 1000)
        before = told_of(house, 2)
        for picture, ways in rows:
            ways.append("more")
        rows.clear()
        self.assertEqual(all_orders(house, 1000), kept)
        self.assertEqual(told_of(house, 2), before)

    def test_lists_told_earlier_stay(self):
        house = made((2, 1, 1, 1), [(0, ("add", 0, 1)), (1, ("read", 0))])
        rows, kept = all_orders(house, 1000), all_orders(house.twin(), 1000)
        house.ask(0, ("read", 0))
        while house.letters():
            house.come(house.may_come()[0])
        self.assertEqual(rows, kept)
        self.assertNotEqual(all_orders(house, 1000), kept)


if __name__ == "__main__":
    unittest.main()
