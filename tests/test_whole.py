"""[3] The promise of the whole, of houses, their letters and their trails, in many orders of letters."""

import unittest

from linewarden.house import House
from linewarden.looks import clash_lines, is_calm, last_words, odd_lines, told_number
from linewarden.trails import faults_of, memory_of, rows_of_near

ASKING = ("read", "write", "back")
TO_HOME = ASKING + ("lowered", "yielded", "took")


class Chooser:
    """Chooses by rule: the same numbers one behind the other for the same seed."""

    def __init__(self, seed):
        self.state = seed

    def below(self, bound):
        self.state = (self.state * 1103515245 + 12345) % 2 ** 31
        return (self.state >> 12) % bound


class Asked:
    """A house, what was asked of each of its nears, and its picture."""

    def __init__(self, house, nears, lines, width):
        self.house, self.nears, self.lines, self.width = house, nears, lines, width
        self.deeds = [[] for near in range(nears)]
        self.picture = house.picture()

    def ask(self, near, deed):
        self.house.ask(near, deed)
        self.deeds[near].append(deed)
        self.picture = self.house.picture()

    def come(self, number):
        self.house.come(number)
        self.picture = self.house.picture()

    def twin(self):
        other = Asked(self.house.twin(), self.nears, self.lines, self.width)
        other.deeds = [list(deeds) for deeds in self.deeds]
        return other


def fresh(nears, lines, width, room, ordered):
    return Asked(House(nears, lines, width, room, ordered), nears, lines, width)


class WholeTest(unittest.TestCase):
    def assert_whole(self, asked):
        self.assert_one_writer_or_readers(asked)
        self.assert_trail(asked)
        self.assert_letters(asked)
        self.assert_end_in_sight(asked)
        if is_calm(asked.picture):
            self.assert_calm(asked)

    def assert_one_writer_or_readers(self, asked):
        house = asked.house
        for line in range(asked.lines):
            may = [house.may(near, line) for near in range(asked.nears)]
            if "write" in may:
                self.assertEqual(sorted(may), ["none"] * (asked.nears - 1) + ["write"])
                continue
            words = {house.words(near, line) for near in range(asked.nears) if may[near] == "read"}
            self.assertLessEqual(len(words), 1)
            if house.book(line)[0] is None:
                self.assertLessEqual(words, {house.far(line)})
        self.assertEqual(clash_lines(asked.picture), [])

    def assert_trail(self, asked):
        house, trail = asked.house, asked.house.trail()
        self.assertEqual(faults_of(trail), [])
        for near in range(asked.nears):
            rows = rows_of_near(trail, near)
            self.assertEqual([deed for of, deed, value in rows] + house.waiting(near), asked.deeds[near])
            self.assertEqual([value for of, deed, value in rows], house.answers(near))
        memory, addresses = dict(memory_of(trail)), range(asked.lines * asked.width)
        last = [word for line in range(asked.lines) for word in last_words(asked.picture, line)]
        self.assertEqual(last, [memory.get(address, 0) for address in addresses])

    def assert_letters(self, asked):
        on_roads = {}
        for number, (word, line, near, words) in asked.house.letters():
            on_roads.setdefault((line, near, word in TO_HOME), []).append(word)
        for (line, near, home), words in on_roads.items():
            if not home:
                self.assertEqual(len(words), 1)
            elif len(words) > 1:
                self.assertEqual(sorted(word in ASKING for word in words), [False, True])

    def assert_end_in_sight(self, asked):
        calm = is_calm(asked.picture)
        self.assertEqual(told_number(asked.picture) == 0, calm)
        self.assertGreaterEqual(told_number(asked.picture), 0)
        self.assertEqual(asked.house.may_come() == [], calm)

    def assert_calm(self, asked):
        house, nears = asked.house, range(asked.nears)
        self.assertEqual([house.waiting(near) for near in nears], [[]] * asked.nears)
        self.assertEqual(odd_lines(asked.picture), [])
        for line in range(asked.lines):
            writers = [near for near in nears if house.may(near, line) == "write"]
            readers = [near for near in nears if house.may(near, line) == "read"]
            self.assertEqual(house.book(line), ((writers + [None])[0], readers))
            for near in readers:
                self.assertEqual(house.words(near, line), house.far(line))

    def ask(self, asked, near, deed):
        before = told_number(asked.picture)
        asked.ask(near, deed)
        self.assertLessEqual(told_number(asked.picture), before + 2 * asked.nears + 3)
        self.assert_whole(asked)

    def come(self, asked, number):
        before = told_number(asked.picture)
        asked.come(number)
        self.assertLess(told_number(asked.picture), before)
        self.assert_whole(asked)


class TestEveryOrder(WholeTest):
    """Small houses, in every order of letters, with each deed asked at every time at which it can be."""

    def walk(self, sizes, ordered, scripts):
        """Tells how many places there are, and how many of them are calm ones with all deeds asked."""
        first = fresh(*sizes, ordered)
        self.assert_whole(first)
        seen, still_to_walk, ends = {}, [first], 0
        while still_to_walk:
            asked = still_to_walk.pop()
            key = (asked.picture, tuple(len(deeds) for deeds in asked.deeds))
            if key in seen:
                continue
            seen[key] = True
            steps = self.steps(asked, scripts)
            ends += not steps
            for step in steps:
                other = asked.twin()
                step(other)
                still_to_walk.append(other)
        return len(seen), ends

    def steps(self, asked, scripts):
        steps = [lambda other, number=number: self.come(other, number) for number in asked.house.may_come()]
        for near, script in enumerate(scripts):
            place = len(asked.deeds[near])
            if place < len(script):
                steps.append(lambda other, near=near, deed=script[place]: self.ask(other, near, deed))
        return steps

    def assert_every_order(self, sizes, scripts, least):
        for ordered in (False, True):
            with self.subTest(sizes=sizes, ordered=ordered):
                places, ends = self.walk(sizes, ordered, scripts)
                self.assertGreater(places, least)
                self.assertGreater(ends, 0)

    def test_one_near(self):
        self.assert_every_order((1, 1, 1, 1), [[("read", 0), ("add", 0, 1), ("read", 0)]], 15)
        self.assert_every_order((1, 3, 1, 1), [[("write", 0, 1), ("read", 1), ("add", 0, 2), ("read", 2)]], 40)
        self.assert_every_order((1, 3, 2, 2), [[("write", 0, 1), ("read", 2), ("add", 5, 2), ("read", 0)]], 40)

    def test_two_nears_and_one_line(self):
        self.assert_every_order((2, 1, 1, 1), [
            [("read", 0), ("add", 0, 1), ("read", 0), ("add", 0, 2)],
            [("write", 0, 5), ("swap", 0, 6, 7), ("read", 0)]], 1000)

    def test_two_nears_and_two_lines_with_room_for_one(self):
        self.assert_every_order((2, 2, 1, 1), [
            [("write", 0, 1), ("read", 1), ("add", 0, 4)], [("add", 0, 2), ("write", 1, 3), ("read", 0)]], 1000)
        self.assert_every_order((2, 2, 1, 1), [
            [("read", 0), ("add", 0, 1), ("read", 1)], [("add", 0, 2), ("read", 0)]], 300)

    def test_two_nears_with_room_for_two(self):
        self.assert_every_order((2, 2, 2, 2), [
            [("read", 0), ("add", 2, 1), ("read", 3)], [("add", 0, 2), ("read", 2), ("write", 1, 1)]], 500)
        self.assert_every_order((2, 3, 1, 2), [
            [("read", 0), ("add", 1, 1), ("write", 2, 1)], [("add", 0, 2), ("read", 2)]], 500)

    def test_three_nears(self):
        self.assert_every_order((3, 1, 1, 1), [
            [("read", 0), ("add", 0, 1)], [("read", 0), ("add", 0, 3)], [("write", 0, 5)]], 1000)
        self.assert_every_order((3, 2, 1, 1), [
            [("add", 0, 1), ("read", 1)], [("add", 0, 2), ("add", 1, 1)], [("read", 0)]], 1000)
        self.assert_every_order((3, 3, 1, 1), [[("add", 0, 1), ("read", 2)], [("read", 0)], [("add", 0, 1)]], 500)

    def test_four_nears(self):
        self.assert_every_order((4, 1, 1, 1), [[("add", 0, 1)], [("read", 0)], [("read", 0)], [("add", 0, 3)]], 1000)
        self.assert_every_order((4, 2, 1, 1), [
            [("read", 0)], [("read", 0)], [("read", 0), ("add", 1, 1)], [("add", 0, 3)]], 2000)


class TestChosenOrders(WholeTest):
    """Larger houses, walked by rules."""

    SIZES = [(nears, lines, width, room) for nears in (1, 2, 3, 4) for lines in (1, 2, 3)
             for width, room in ((1, 1), (2, 1), (1, 2), (2, 3))]

    def deed(self, chooser, asked):
        address = chooser.below(asked.lines * asked.width)
        values = (chooser.below(5) - 2, chooser.below(5) - 2)
        word, parts = (("read", 0), ("read", 0), ("write", 1), ("add", 1), ("swap", 2))[chooser.below(5)]
        return (word, address) + values[:parts]

    def ask_some(self, chooser, asked, most):
        for place in range(chooser.below(most + 1)):
            self.ask(asked, chooser.below(asked.nears), self.deed(chooser, asked))

    def to_the_end(self, asked, rule):
        """Lets letters come, without deeds, until none is left; tells how many came."""
        told, came = told_number(asked.picture), 0
        while asked.house.may_come():
            self.come(asked, rule(asked.house.may_come(), came))
            came += 1
        self.assertLessEqual(came, told)
        self.assertTrue(is_calm(asked.picture))
        self.assertEqual(sum(len(deeds) for deeds in asked.deeds), len(asked.house.trail()))
        return came

    def walk(self, chooser, asked, rule):
        for place in range(6):
            self.ask_some(chooser, asked, 3)
            for turn in range(chooser.below(8)):
                if asked.house.may_come():
                    self.come(asked, rule(asked.house.may_come(), turn))
        return self.to_the_end(asked, rule)

    def assert_rule(self, rule, seed):
        chooser, came = Chooser(seed), 0
        for sizes in self.SIZES:
            for ordered in (False, True):
                with self.subTest(sizes=sizes, ordered=ordered):
                    came += self.walk(chooser, fresh(*sizes, ordered), rule)
        self.assertGreater(came, 100)

    def test_the_smallest_number_first(self):
        self.assert_rule(lambda numbers, turn: numbers[0], 1)

    def test_the_largest_number_first(self):
        self.assert_rule(lambda numbers, turn: numbers[-1], 2)

    def test_from_both_ends_in_turn(self):
        self.assert_rule(lambda numbers, turn: numbers[-(turn % 2)], 3)

    def test_the_middle_one(self):
        self.assert_rule(lambda numbers, turn: numbers[len(numbers) // 2], 4)

    def test_chosen_ones(self):
        for seed in (5, 6, 7, 8):
            other = Chooser(seed + 100)
            self.assert_rule(lambda numbers, turn: numbers[other.below(len(numbers))], seed)

    def test_each_letter_as_late_as_it_can_be(self):
        """The letters of one near wait until no other letter may come."""
        for near in (0, 1):
            for ordered in (False, True):
                asked = fresh(3, 2, 1, 1, ordered)
                chooser = Chooser(50 + near)

                def late(numbers, turn):
                    letters = dict(asked.house.letters())
                    others = [number for number in numbers if letters[number][2] != near]
                    return (others + numbers)[0]

                self.walk(chooser, asked, late)
                self.assertGreater(len(asked.house.trail()), 3)


class TestLargeHouses(WholeTest):
    def test_all_nears_ask_for_one_line(self):
        for ordered in (False, True):
            asked, chooser = fresh(16, 1, 1, 1, ordered), Chooser(60)
            for deed in (("add", 0, 1), ("read", 0), ("add", 0, 1)):
                for near in range(16):
                    self.ask(asked, near, deed)
            while asked.house.may_come():
                numbers = asked.house.may_come()
                self.come(asked, numbers[chooser.below(len(numbers))])
            self.assertEqual(dict(memory_of(asked.house.trail())), {0: 32})

    def test_a_near_walks_over_all_lines(self):
        asked = fresh(2, 64, 1, 2, False)
        for line in range(64):
            asked.ask(line % 2, ("add", line, 1))
            asked.ask(1 - line % 2, ("add", line, 1))
        self.assert_whole(asked)
        while asked.house.may_come():
            asked.come(asked.house.may_come()[0])
        self.assert_whole(asked)
        self.assertTrue(is_calm(asked.picture))
        self.assertEqual(dict(memory_of(asked.house.trail())), {line: 2 for line in range(64)})


if __name__ == "__main__":
    unittest.main()
