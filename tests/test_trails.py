"""[22] Trails: their memory, their faults, and their tuples of a line or of a near."""

import unittest

from linewarden.house import House
from linewarden.trails import faults_of, memory_of, rows_of_line, rows_of_near

LARGEST = 10 ** 60 - 1
# Twelve deeds of three nears with the values that they find.
RIGHT = [
    (0, ("read", 3), 0), (1, ("write", 3, 5), 0), (0, ("read", 3), 5), (2, ("add", 3, -7), 5),
    (2, ("swap", 3, -2, 9), -2), (0, ("swap", 3, -2, 4), 9), (1, ("read", 3), 9), (1, ("add", 0, 6), 0),
    (0, ("write", 11, 1), 0), (0, ("swap", 4, 0, 8), 0), (2, ("swap", 5, 1, 8), 0), (1, ("write", 0, -3), 6)]
MEMORY = [(0, -3), (3, 9), (4, 8), (5, 0), (11, 1)]


def with_values(trail, values):
    return [(near, deed, value) for (near, deed, told), value in zip(trail, values)]


class TestMemory(unittest.TestCase):
    def test_the_empty_trail(self):
        self.assertEqual(memory_of([]), [])
        self.assertEqual(faults_of([]), [])
        self.assertEqual(rows_of_line([], 0, 1), [])
        self.assertEqual(rows_of_near([], 0), [])

    def test_what_each_deed_leaves_where_nothing_was(self):
        for deed, value in (
                (("read", 7), 0), (("write", 7, 5), 5), (("write", 7, 0), 0), (("add", 7, -4), -4), (("add", 7, 0), 0),
                (("swap", 7, 0, 3), 3), (("swap", 7, 1, 3), 0), (("write", 7, -LARGEST), -LARGEST)):
            self.assertEqual(memory_of([(0, deed, 0)]), [(7, value)])

    def test_a_longer_trail(self):
        self.assertEqual(memory_of(RIGHT), MEMORY)

    def test_at_each_length(self):
        for length in range(len(RIGHT) + 1):
            values = {}
            for near, deed, told in RIGHT[:length]:
                found = values.get(deed[1], 0)
                behind = {"read": found, "write": deed[-1], "add": found + deed[-1],
                          "swap": deed[-1] if found == deed[-2] else found}
                values[deed[1]] = behind[deed[0]]
            self.assertEqual(memory_of(RIGHT[:length]), sorted(values.items()))

    def test_whatever_values_the_tuples_tell(self):
        for values in ([1] * 12, range(12), [LARGEST] * 12, [-2] * 12, [10 ** 99] * 12):
            self.assertEqual(memory_of(with_values(RIGHT, values)), MEMORY)

    def test_addresses_rise_as_numbers(self):
        trail = [(0, ("write", address, 1), 0) for address in (100, 9, LARGEST, 20, 0, 10 ** 59)]
        self.assertEqual([place for place, value in memory_of(trail)], [0, 9, 20, 100, 10 ** 59, LARGEST])

    def test_values_as_long_as_they_need(self):
        trail = [(0, ("add", 2, LARGEST), 0)] * 11
        self.assertEqual(memory_of(trail), [(2, 11 * LARGEST)])

    def test_deeds_of_all_nears_count(self):
        trail = [(near, ("add", 1, 1), near) for near in (0, 5, 15, 63, 0)]
        self.assertEqual(memory_of(trail), [(1, 5)])


class TestFaults(unittest.TestCase):
    def test_a_trail_without_faults(self):
        self.assertEqual(faults_of(RIGHT), [])

    def test_each_place(self):
        for place in range(len(RIGHT)):
            near, deed, value = RIGHT[place]
            for wrong in (value + 1, value - 1, -LARGEST):
                trail = RIGHT[:place] + [(near, deed, wrong)] + RIGHT[place + 1:]
                self.assertEqual(faults_of(trail), [place])

    def test_several_places_rise(self):
        self.assertEqual(faults_of(with_values(RIGHT, [1] * 12)), list(range(12)))
        self.assertEqual(faults_of(with_values(RIGHT, [0] * 12)), [2, 3, 4, 5, 6, 11])
        self.assertEqual(faults_of(with_values(RIGHT, [9] * 12)), [0, 1, 2, 3, 4, 7, 8, 9, 10, 11])

    def test_by_the_deeds_alone(self):
        trail = [(0, ("write", 0, 5), 3), (1, ("add", 0, 1), 3), (1, ("read", 0), 4), (0, ("read", 0), 6)]
        self.assertEqual(faults_of(trail), [0, 1, 2])
        trail = [(0, ("read", 0), 3), (1, ("swap", 0, 3, 9), 3), (1, ("read", 0), 9), (0, ("read", 0), 0)]
        self.assertEqual(faults_of(trail), [0, 1, 2])

    def test_a_fault_of_one_address_is_none_of_another(self):
        trail = [(0, ("write", 0, 5), 0), (0, ("read", 1), 5), (0, ("read", 0), 5), (0, ("read", 1), 0)]
        self.assertEqual(faults_of(trail), [1])

    def test_deeds_in_another_order(self):
        self.assertEqual(faults_of([RIGHT[2], RIGHT[1]]), [0])
        self.assertEqual(faults_of(RIGHT[::-1]), [0, 4, 5, 6, 7, 8, 9, 10, 11])


class TestRows(unittest.TestCase):
    def test_of_a_line(self):
        self.assertEqual(rows_of_line(RIGHT, 0, 4), RIGHT[:8] + RIGHT[11:])
        self.assertEqual(rows_of_line(RIGHT, 1, 4), RIGHT[9:11])
        self.assertEqual(rows_of_line(RIGHT, 2, 4), RIGHT[8:9])
        self.assertEqual(rows_of_line(RIGHT, 3, 4), [])
        self.assertEqual(rows_of_line(RIGHT, 0, 3), [RIGHT[7], RIGHT[11]])

    def test_of_a_line_with_one_word_or_with_many(self):
        self.assertEqual(rows_of_line(RIGHT, 3, 1), RIGHT[:7])
        self.assertEqual(rows_of_line(RIGHT, 1, 1), [])
        self.assertEqual(rows_of_line(RIGHT, 0, 12), RIGHT)
        self.assertEqual(rows_of_line(RIGHT, 0, 11), RIGHT[:8] + RIGHT[9:])

    def test_of_a_near(self):
        for near in range(3):
            self.assertEqual(rows_of_near(RIGHT, near), [row for row in RIGHT if row[0] == near])
        self.assertEqual(len(rows_of_near(RIGHT, 0)), 5)
        self.assertEqual(rows_of_near(RIGHT, 3), [])

    def test_rows_that_are_alike_stand_twice(self):
        trail = [(4, ("read", 9), 0)] * 3
        self.assertEqual(rows_of_near(trail, 4), trail)
        self.assertEqual(rows_of_line(trail, 4, 2), trail)

    def test_wrong_values_stay(self):
        trail = with_values(RIGHT, range(50, 62))
        self.assertEqual(rows_of_near(trail, 2), [trail[3], trail[4], trail[10]])
        self.assertEqual(rows_of_line(trail, 2, 4), [trail[8]])


class TestAll(unittest.TestCase):
    def test_kinds(self):
        for told in (memory_of(RIGHT), faults_of(RIGHT), rows_of_near(RIGHT, 0), rows_of_line(RIGHT, 0, 4)):
            self.assertIs(type(told), list)
        self.assertEqual({type(pair) for pair in memory_of(RIGHT)}, {tuple})

    def test_arguments_have_their_names(self):
        self.assertEqual(memory_of(trail=RIGHT), MEMORY)
        self.assertEqual(faults_of(trail=RIGHT), [])
        self.assertEqual(rows_of_line(trail=RIGHT, line=2, width=4), RIGHT[8:9])
        self.assertEqual(rows_of_near(trail=RIGHT, near=3), [])

    def test_what_is_handed_in_stays_and_what_is_told_is_the_askers_own(self):
        trail = list(RIGHT)
        for told in (memory_of(trail), faults_of(trail), rows_of_near(trail, 0), rows_of_line(trail, 0, 12)):
            told.append("more")
            self.assertEqual(trail, RIGHT)
        told = rows_of_line(trail, 0, 12)
        trail.clear()
        self.assertEqual(told, RIGHT)
        self.assertEqual(memory_of(RIGHT), MEMORY)

    def test_of_a_house(self):
        house = House(2, 2, 2, 1)
        for near, deed in ((0, ("add", 0, 4)), (1, ("add", 0, 5)), (0, ("write", 3, 2)), (1, ("read", 3))):
            house.ask(near, deed)
        while house.letters():
            house.come(house.may_come()[0])
        trail = house.trail()
        self.assertEqual((len(trail), faults_of(trail)), (4, []))
        self.assertEqual(memory_of(trail), [(0, 9), (3, 2)])
        self.assertEqual([value for near, deed, value in rows_of_near(trail, 1)], house.answers(1))
        self.assertEqual([deed for near, deed, value in rows_of_line(trail, 0, 2)], [("add", 0, 4), ("add", 0, 5)])

    def test_a_thousand_tuples(self):
        trail = [(place % 16, ("add", place % 7, 1), place // 7) for place in range(1000)]
        self.assertEqual(faults_of(trail), [])
        self.assertEqual(memory_of(trail), [(spot, 143 if spot < 6 else 142) for spot in range(7)])


if __name__ == "__main__":
    unittest.main()
