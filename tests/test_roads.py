"""[6] Roads: numbers, which letters are under way, which may come, and what is refused."""

import random
import unittest

from linewarden.errors import Early, NoLetter
from linewarden.letters import make_letter, road_of
from linewarden.roads import Roads

HOME = ("read", "write", "back", "lowered", "yielded", "took")
NEAR = ("lower", "yield", "share", "own", "gone")
LARGEST = 10 ** 60 - 1
# Numbers under which a letter is never under way here.
NEVER = (0, -1, -2, LARGEST, -LARGEST, 10 ** 59)


def any_letter(chance):
    words = chance.choice((None, (chance.randrange(9),), (LARGEST, -LARGEST)))
    return make_letter(chance.choice(HOME + NEAR), chance.randrange(3), chance.randrange(2), words)


def told_of(roads):
    return (roads.letters(), roads.may_come())


class RoadsTest(unittest.TestCase):
    def assert_refused(self, roads, number, refusal):
        before = told_of(roads)
        for again in range(2):
            with self.assertRaises(refusal) as caught:
                roads.take(number)
            self.assertIs(type(caught.exception), refusal)
        self.assertEqual(told_of(roads), before)


class TestNumbers(RoadsTest):
    def test_at_first_no_letter_is_under_way(self):
        for roads in (Roads(), Roads(False), Roads(True), Roads(ordered=True)):
            self.assertEqual(told_of(roads), ([], []))
            for number in NEVER + (1, 2):
                self.assert_refused(roads, number, NoLetter)

    def test_numbers_go_from_one_on_for_all_roads_together(self):
        for ordered in (False, True):
            roads = Roads(ordered)
            sent = [make_letter(word, line, near) for word in HOME + NEAR for line in (0, 7) for near in (0, 3)]
            self.assertEqual([roads.send(letter) for letter in sent], list(range(1, 45)))
            self.assertEqual(roads.letters(), list(zip(range(1, 45), sent)))

    def test_no_number_is_given_twice(self):
        for ordered in (False, True):
            roads = Roads(ordered)
            letter = make_letter("read", 0, 0)
            self.assertEqual(roads.send(letter), 1)
            self.assertEqual(roads.take(1), letter)
            self.assertEqual(roads.send(letter), 2)
            self.assertEqual(roads.send(letter), 3)
            roads.take(2)
            roads.take(3)
            self.assertEqual(told_of(roads), ([], []))
            self.assertEqual(roads.send(letter), 4)
            self.assertEqual(roads.letters(), [(4, letter)])

    def test_kinds_of_what_is_told(self):
        for ordered in (False, True):
            roads = Roads(ordered)
            letter = make_letter("own", 2, 1, (5, -6))
            self.assertIs(type(roads.send(letter)), int)
            self.assertIs(type(roads.letters()), list)
            self.assertIs(type(roads.letters()[0]), tuple)
            self.assertIs(type(roads.may_come()), list)
            self.assertIs(type(roads.may_come()[0]), int)
            taken = roads.take(1)
            self.assertIs(type(taken), tuple)
            self.assertEqual(taken, ("own", 2, 1, (5, -6)))

    def test_arguments_have_their_names(self):
        roads = Roads(ordered=False)
        self.assertEqual(roads.send(letter=make_letter("took", 0, 0)), 1)
        self.assertEqual(roads.take(number=1), ("took", 0, 0, None))


class TestWhatMayCome(RoadsTest):
    def test_without_order_each_letter_may_come(self):
        for roads in (Roads(), Roads(False)):
            for word in ("read", "took", "read", "own"):
                roads.send(make_letter(word, 0, 0))
            self.assertEqual(roads.may_come(), [1, 2, 3, 4])
            self.assertEqual(roads.take(3), make_letter("read", 0, 0))
            self.assertEqual(roads.may_come(), [1, 2, 4])
            roads.take(4)
            roads.take(2)
            self.assertEqual(roads.may_come(), [1])
            self.assertEqual(roads.letters(), [(1, make_letter("read", 0, 0))])

    def test_with_order_the_first_of_each_road_may_come(self):
        roads = Roads(True)
        for word, line, near in (("read", 0, 0), ("took", 0, 0), ("share", 0, 0), ("read", 1, 0), ("read", 0, 1),
                                 ("gone", 0, 0), ("yielded", 0, 0)):
            roads.send(make_letter(word, line, near))
        self.assertEqual(roads.may_come(), [1, 3, 4, 5])
        for number in (2, 6, 7):
            self.assert_refused(roads, number, Early)
        self.assertEqual(roads.take(1), make_letter("read", 0, 0))
        self.assertEqual(roads.may_come(), [2, 3, 4, 5])
        self.assert_refused(roads, 7, Early)
        self.assertEqual(roads.take(5), make_letter("read", 0, 1))
        self.assertEqual(roads.take(3), make_letter("share", 0, 0))
        self.assertEqual(roads.may_come(), [2, 4, 6])
        roads.take(2)
        self.assertEqual(roads.may_come(), [4, 6, 7])
        self.assertEqual([number for number, letter in roads.letters()], [4, 6, 7])

    def test_with_order_a_letter_passes_those_of_other_roads(self):
        for other in (("share", 5, 4), ("read", 4, 4), ("read", 5, 5)):
            roads = Roads(True)
            first, second = make_letter("read", 5, 4), make_letter(*other)
            roads.send(first)
            roads.send(second)
            self.assertEqual(roads.may_come(), [1, 2])
            self.assertEqual(roads.take(2), second)
            self.assertEqual(roads.take(1), first)

    def test_with_order_the_words_of_a_letter_do_not_part_roads(self):
        for words in HOME, NEAR:
            for ahead in words:
                for behind in words:
                    roads = Roads(True)
                    roads.send(make_letter(ahead, 1, 1, (1,)))
                    roads.send(make_letter(behind, 1, 1, (2,)))
                    self.assertEqual(roads.may_come(), [1])
                    self.assert_refused(roads, 2, Early)


class TestRefusals(RoadsTest):
    def test_a_number_without_a_letter_under_way(self):
        for ordered in (False, True):
            roads = Roads(ordered)
            for line in range(3):
                roads.send(make_letter("read", line, 0))
            roads.take(2)
            for number in NEVER + (2, 4, 5, 1000):
                with self.subTest(ordered=ordered, number=number):
                    self.assert_refused(roads, number, NoLetter)
            self.assertEqual(roads.send(make_letter("back", 0, 0)), 4)

    def test_a_letter_taken_twice(self):
        for ordered in (False, True):
            roads = Roads(ordered)
            roads.send(make_letter("read", 0, 0))
            roads.send(make_letter("took", 0, 0))
            roads.take(1)
            self.assert_refused(roads, 1, NoLetter)
            self.assertEqual(roads.take(2), make_letter("took", 0, 0))
            self.assert_refused(roads, 2, NoLetter)

    def test_early_changes_nothing_and_the_letter_comes_later(self):
        roads = Roads(True)
        roads.send(make_letter("write", 0, 0))
        roads.send(make_letter("yielded", 0, 0, (3,)))
        self.assert_refused(roads, 2, Early)
        self.assertEqual(roads.send(make_letter("own", 0, 0, (4,))), 3)
        roads.take(1)
        self.assertEqual(roads.take(2), ("yielded", 0, 0, (3,)))
        self.assertEqual(roads.take(3), ("own", 0, 0, (4,)))


class TestListsAndTwins(RoadsTest):
    def filled(self, ordered):
        roads = Roads(ordered)
        for word, near in (("read", 0), ("took", 0), ("read", 1), ("share", 0)):
            roads.send(make_letter(word, 0, near))
        roads.take(3)
        return roads

    def test_lists_told_earlier_stay(self):
        for ordered in (False, True):
            roads = self.filled(ordered)
            letters, numbers = told_of(roads)
            kept = (list(letters), list(numbers))
            roads.take(1)
            roads.send(make_letter("gone", 0, 0))
            self.assertEqual((letters, numbers), kept)

    def test_what_the_asker_does_with_a_list_changes_nothing(self):
        for ordered in (False, True):
            roads = self.filled(ordered)
            before = told_of(roads)
            for change in (list.clear, list.reverse, lambda told: told.append(9), lambda told: told.pop(0)):
                for told in told_of(roads):
                    change(told)
                self.assertEqual(told_of(roads), before)
            self.assertIsNot(roads.letters(), roads.letters())
            self.assertIsNot(roads.may_come(), roads.may_come())

    def test_two_roads_have_nothing_in_common(self):
        one, other = Roads(), Roads()
        one.send(make_letter("read", 0, 0))
        self.assertEqual(told_of(other), ([], []))
        self.assertEqual(other.send(make_letter("took", 1, 1)), 1)
        self.assertEqual(one.letters(), [(1, make_letter("read", 0, 0))])

    def test_a_twin_tells_the_same_and_keeps_its_order_or_none(self):
        for ordered in (False, True):
            roads = self.filled(ordered)
            twin = roads.twin()
            self.assertIsInstance(twin, Roads)
            self.assertIsNot(twin, roads)
            self.assertEqual(told_of(twin), told_of(roads))
            self.assertEqual(twin.may_come(), [1, 4] if ordered else [1, 2, 4])
            self.assert_refused(twin, 3, NoLetter)

    def test_a_twin_goes_on_from_the_same_number(self):
        for ordered in (False, True):
            roads = self.filled(ordered)
            twin = roads.twin()
            self.assertEqual(twin.send(make_letter("gone", 1, 0)), 5)
            self.assertEqual(roads.send(make_letter("own", 1, 0)), 5)
            self.assertEqual(twin.letters()[-1], (5, make_letter("gone", 1, 0)))
            self.assertEqual(roads.letters()[-1], (5, make_letter("own", 1, 0)))

    def test_a_twin_of_roads_whose_last_letters_were_taken(self):
        roads = Roads()
        roads.send(make_letter("read", 0, 0))
        roads.send(make_letter("read", 1, 0))
        roads.take(2)
        roads.take(1)
        twin = roads.twin()
        self.assertEqual(told_of(twin), ([], []))
        self.assertEqual(twin.send(make_letter("read", 0, 0)), 3)

    def test_what_is_done_to_one_does_not_change_the_other(self):
        for ordered in (False, True):
            roads = self.filled(ordered)
            twin = roads.twin()
            before = told_of(roads)
            twin.take(1)
            twin.send(make_letter("yield", 0, 0))
            twin.twin().take(2)
            self.assertEqual(told_of(roads), before)
            behind = told_of(twin)
            roads.take(4)
            roads.send(make_letter("lower", 0, 0))
            self.assertEqual(told_of(twin), behind)


class TestManyLetters(RoadsTest):
    """The point's own words, held against the roads at each step of chosen rows of sends and takes."""

    def may_come(self, under_way, ordered):
        return [number for number, letter in under_way if not ordered or not any(
            road_of(other) == road_of(letter) and ahead < number for ahead, other in under_way)]

    def walk(self, chance, ordered):
        roads, under_way, last = Roads(ordered), [], 0
        for step in range(60):
            if chance.random() < 0.6:
                letter = any_letter(chance)
                last += 1
                self.assertEqual(roads.send(letter), last)
                under_way.append((last, letter))
            number = chance.randrange(-1, last + 3)
            letter = dict(under_way).get(number)
            if letter is None:
                self.assert_refused(roads, number, NoLetter)
            elif number not in self.may_come(under_way, ordered):
                self.assert_refused(roads, number, Early)
            else:
                self.assertEqual(roads.take(number), letter)
                under_way.remove((number, letter))
            self.assertEqual(told_of(roads), (under_way, self.may_come(under_way, ordered)))
            if chance.random() < 0.2:
                roads = roads.twin()

    def test_walks(self):
        chance = random.Random(6)
        for ordered in (False, True) * 40:
            self.walk(chance, ordered)


if __name__ == "__main__":
    unittest.main()
