"""[16] to [21] A house: its bounds, deeds asked of it, letters that come, its trail and its picture."""

import random
import unittest

from linewarden.errors import Early, NoDeed, NoHouse, NoLetter, NoPlace
from linewarden.home import Home
from linewarden.house import House
from linewarden.near import Near
from odd_things import no_texts

LARGEST = 10 ** 60 - 1
NO_DEEDS = no_texts() + [
    "read", "read 0", ("read",), ("read", -1), ("read", True), ("read", 0, 0), ("write", 0), ("write", 0, None),
    ("write", 0, 1, 2), ("add", 0, True), ("swap", 0, 1), ("swap", 0, 1, 2, 3), ["read", 0], ("took", 0), ("Read", 0)]


def told_of(house, nears, lines):
    """All that is told of a house with so many nears and lines."""
    of_nears = [(house.answers(near), house.waiting(near)) for near in range(nears)]
    of_both = [(house.may(near, line), house.words(near, line)) for near in range(nears) for line in range(lines)]
    of_lines = [(house.book(line), house.far(line)) for line in range(lines)]
    return (house.letters(), house.may_come(), house.trail(), house.picture(), of_nears, of_both, of_lines)


def come_all(house):
    while house.letters():
        house.come(house.may_come()[0])
    return house


def parts_of(house):
    return [letter for number, letter in house.letters()]


class HouseTest(unittest.TestCase):
    def assert_refused(self, error, ask, *given):
        for again in range(2):
            with self.assertRaises(error) as caught:
                ask(*given)
            self.assertIs(type(caught.exception), error)

    def assert_quiet(self, house, nears, lines):
        """All is as in a new house."""
        words = house.far(0)
        self.assertEqual(set(words), {0})
        self.assertEqual((house.letters(), house.may_come(), house.trail()), ([], [], []))
        self.assertEqual(house.picture(), (
            (((), (), ()),) * nears, ((words, None, (), (), None),) * lines, ()))
        for near in range(nears):
            self.assertEqual((house.answers(near), house.waiting(near)), ([], []))
            for line in range(lines):
                self.assertEqual((house.may(near, line), house.words(near, line)), ("none", None))
        for line in range(lines):
            self.assertEqual((house.book(line), house.far(line)), ((None, []), words))


class TestBounds(HouseTest):
    def test_houses_at_the_bounds(self):
        for nears in (1, 16):
            for lines in (1, 64):
                for width in (1, 16):
                    for room in (1, 64):
                        house = House(nears, lines, width, room)
                        self.assertEqual(len(house.far(lines - 1)), width)
                        self.assert_quiet(house, nears, lines)

    def test_houses_beyond_the_bounds(self):
        right, most = (3, 3, 3, 3), (16, 64, 16, 64)
        for place in range(4):
            for wrong in (0, -1, -2, most[place] + 1, most[place] + 2, 65, 100, LARGEST, -LARGEST):
                with self.subTest(place=place, wrong=wrong):
                    self.assert_refused(NoHouse, House, *right[:place], wrong, *right[place + 1:])
                    self.assert_refused(NoHouse, House, *right[:place], wrong, *right[place + 1:], True)

    def test_each_number_that_a_house_may_have(self):
        for size in range(1, 17):
            self.assert_quiet(House(size, 1, 1, 1), size, 1)
            self.assert_quiet(House(1, 1, size, 1), 1, 1)
        for size in range(1, 65):
            self.assert_quiet(House(1, size, 1, size), 1, size)

    def test_several_numbers_beyond_the_bounds(self):
        for given in ((0, 0, 0, 0), (17, 65, 17, 65), (0, 65, 1, 1), (1, 1, 17, 0), (17, 1, 1, 0), (-1, 1, -1, 1)):
            self.assert_refused(NoHouse, House, *given)

    def test_arguments_have_their_names(self):
        house = House(nears=2, lines=3, width=2, room=1, ordered=True)
        self.assertEqual(house.ask(near=1, deed=("read", 5)), 0)
        self.assertEqual(house.come(number=1), ("read", 2, 1, None))
        self.assertEqual((house.answers(near=1), house.waiting(near=1)), ([], [("read", 5)]))
        self.assertEqual((house.may(near=1, line=2), house.words(near=1, line=2)), ("none", None))
        self.assertEqual((house.book(line=2), house.far(line=2)), ((None, [1]), (0, 0)))

    def test_the_room_is_each_nears_own(self):
        for room in (1, 2, 3):
            house = House(2, 4, 1, room)
            for near in range(2):
                for line in range(4):
                    house.ask(near, ("read", line))
            come_all(house)
            for near in range(2):
                held = [line for line in range(4) if house.may(near, line) == "read"]
                self.assertEqual(held, list(range(4 - room, 4)))

    def test_two_houses_have_nothing_in_common(self):
        one, other = House(2, 2, 2, 1), House(2, 2, 2, 1)
        one.ask(0, ("write", 0, 5))
        come_all(one)
        self.assert_quiet(other, 2, 2)


class TestAsk(HouseTest):
    def test_how_many_were_asked_ahead(self):
        house = House(2, 2, 2, 1)
        self.assertEqual(house.ask(0, ("read", 0)), 0)
        self.assertEqual(house.ask(0, ("read", 3)), 1)
        self.assertEqual(house.ask(1, ("add", 0, 1)), 0)
        come_all(house)
        self.assertEqual(house.ask(0, ("read", 3)), 2)
        self.assertEqual(house.ask(0, ("read", 3)), 3)
        self.assertEqual(house.ask(1, ("read", 3)), 1)

    def test_refused_ones_do_not_count(self):
        house = House(2, 2, 2, 1)
        house.ask(1, ("read", 0))
        for near, deed, error in (
                (2, ("read", 0), NoPlace), (1, ("read", -1), NoDeed), (1, ("read", 4), NoPlace), (0, None, NoDeed)):
            self.assert_refused(error, house.ask, near, deed)
        self.assertEqual(house.ask(1, ("read", 0)), 1)
        self.assertEqual(house.ask(0, ("read", 0)), 0)

    def test_letters_are_sent_in_their_order(self):
        house = House(3, 2, 2, 1)
        house.ask(2, ("read", 3))
        house.ask(0, ("write", 3, 7))
        house.ask(1, ("add", 0, 1))
        house.ask(0, ("read", 0))
        self.assertEqual(house.letters(), [
            (1, ("read", 1, 2, None)), (2, ("write", 1, 0, None)), (3, ("write", 0, 1, None))])
        self.assertEqual(house.may_come(), [1, 2, 3])
        self.assertEqual(house.waiting(0), [("write", 3, 7), ("read", 0)])

    def test_a_deed_that_is_answered_at_once(self):
        house = House(1, 1, 2, 1)
        house.ask(0, ("write", 1, 7))
        come_all(house)
        self.assertEqual(house.ask(0, ("add", 1, 5)), 1)
        self.assertEqual((house.letters(), house.waiting(0), house.answers(0)), ([], [], [0, 7]))
        self.assertEqual(house.trail(), [(0, ("write", 1, 7), 0), (0, ("add", 1, 5), 7)])
        self.assertEqual((house.words(0, 0), house.far(0)), ((0, 12), (0, 0)))

    def test_a_near_that_is_not_there_comes_first(self):
        house = House(2, 3, 2, 1)
        for near in (2, 3, 16, -1, -2, LARGEST, -LARGEST):
            for deed in [("read", 0), ("read", 6), ("write", LARGEST, 0)] + NO_DEEDS:
                self.assert_refused(NoPlace, house.ask, near, deed)
        self.assert_quiet(house, 2, 3)

    def test_then_what_is_no_deed(self):
        house = House(2, 3, 2, 1)
        for near in (0, 1):
            for deed in NO_DEEDS + [("read", 6, 0), ("write", 6), ("write", 6, True), ("swap", LARGEST, 0, None)]:
                self.assert_refused(NoDeed, house.ask, near, deed)
        self.assert_quiet(house, 2, 3)

    def test_then_an_address_whose_line_is_not_there(self):
        for lines, width in ((3, 2), (1, 1), (64, 16), (1, 16), (64, 1)):
            house = House(2, lines, width, 1)
            for address in (lines * width, lines * width + 1, lines * width + width, 10 ** 59, LARGEST):
                for deed in (("read", address), ("write", address, 1), ("add", address, 1), ("swap", address, 0, 1)):
                    self.assert_refused(NoPlace, house.ask, 1, deed)
            self.assert_quiet(house, 2, lines)
            self.assertEqual(house.ask(1, ("read", lines * width - 1)), 0)
            self.assertEqual(house.letters(), [(1, ("read", lines - 1, 1, None))])

    def test_refusals_in_the_middle_change_nothing(self):
        for ordered in (False, True):
            house = House(2, 2, 1, 1, ordered)
            for near, deed in ((0, ("add", 0, 1)), (1, ("add", 0, 1)), (0, ("add", 1, 1)), (1, ("read", 1))):
                house.ask(near, deed)
            while house.letters():
                before = told_of(house, 2, 2)
                self.assert_refused(NoPlace, house.ask, 2, ("read", 0))
                self.assert_refused(NoDeed, house.ask, 1, ("read", 0, 0))
                self.assert_refused(NoPlace, house.ask, 0, ("read", 2))
                self.assertEqual(told_of(house, 2, 2), before)
                house.come(house.may_come()[-1])


class TestCome(HouseTest):
    def test_a_read_from_end_to_end(self):
        house = House(2, 2, 2, 1)
        house.ask(1, ("read", 3))
        self.assertEqual(house.come(1), ("read", 1, 1, None))
        self.assertEqual(house.letters(), [(2, ("share", 1, 1, (0, 0)))])
        self.assertEqual((house.book(1), house.may(1, 1), house.trail()), ((None, [1]), "none", []))
        self.assertEqual(house.come(2), ("share", 1, 1, (0, 0)))
        self.assertEqual(house.letters(), [(3, ("took", 1, 1, None))])
        self.assertEqual((house.may(1, 1), house.words(1, 1)), ("read", (0, 0)))
        self.assertEqual((house.trail(), house.answers(1)), ([(1, ("read", 3), 0)], [0]))
        self.assertEqual(house.come(3), ("took", 1, 1, None))
        self.assertEqual((house.letters(), house.may_come()), ([], []))

    def test_words_go_from_writer_to_writer_and_to_readers(self):
        house = House(3, 1, 2, 1)
        house.ask(0, ("write", 1, 5))
        come_all(house)
        self.assertEqual((house.book(0), house.far(0), house.words(0, 0)), ((0, []), (0, 0), (0, 5)))
        house.ask(1, ("add", 1, 2))
        house.come(house.may_come()[0])
        self.assertEqual(parts_of(house), [("yield", 0, 0, None)])
        house.come(house.may_come()[0])
        self.assertEqual(parts_of(house), [("yielded", 0, 0, (0, 5))])
        house.come(house.may_come()[0])
        self.assertEqual((parts_of(house), house.far(0)), ([("own", 0, 1, (0, 5))], (0, 5)))
        come_all(house)
        self.assertEqual((house.answers(1), house.words(1, 0), house.may(0, 0)), ([5], (0, 7), "none"))
        house.ask(2, ("read", 1))
        come_all(house)
        self.assertEqual((house.answers(2), house.book(0), house.far(0)), ([7], (None, [1, 2]), (0, 7)))
        self.assertEqual([house.may(near, 0) for near in range(3)], ["none", "read", "read"])

    def test_a_line_is_given_back(self):
        house = House(1, 2, 1, 1)
        house.ask(0, ("write", 0, 5))
        come_all(house)
        house.ask(0, ("read", 1))
        self.assertEqual(parts_of(house), [("back", 0, 0, (5,))])
        self.assertEqual((house.may(0, 0), house.words(0, 0)), ("none", (5,)))
        come_all(house)
        self.assertEqual((house.far(0), house.book(0), house.book(1)), ((5,), (None, []), (None, [0])))
        self.assertEqual(house.words(0, 0), None)

    def test_letters_come_in_any_order(self):
        house = House(3, 1, 1, 1)
        for near in range(3):
            house.ask(near, ("add", 0, 10 ** near))
        house.come(2)
        house.come(3)
        house.come(1)
        come_all(house)
        self.assertEqual([near for near, deed, value in house.trail()], [1, 2, 0])
        self.assertEqual([house.answers(near) for near in range(3)], [[110], [0], [10]])

    def test_a_number_under_which_no_letter_is_under_way(self):
        for ordered in (False, True):
            house = House(2, 1, 1, 1, ordered)
            for number in (0, 1, -1, LARGEST):
                self.assert_refused(NoLetter, house.come, number)
            self.assert_quiet(house, 2, 1)
            house.ask(0, ("read", 0))
            house.come(1)
            before = told_of(house, 2, 1)
            for number in (0, 1, 3, -2, 10 ** 59, LARGEST, -LARGEST):
                self.assert_refused(NoLetter, house.come, number)
            self.assertEqual(told_of(house, 2, 1), before)
            self.assertEqual(house.come(2), ("share", 0, 0, (0,)))

    def test_a_letter_that_may_not_come_yet(self):
        house = House(1, 1, 1, 1, True)
        house.ask(0, ("read", 0))
        house.ask(0, ("write", 0, 5))
        house.come(1)
        house.come(2)
        self.assertEqual(house.letters(), [(3, ("took", 0, 0, None)), (4, ("write", 0, 0, None))])
        self.assertEqual(house.may_come(), [3])
        before = told_of(house, 1, 1)
        self.assert_refused(Early, house.come, 4)
        self.assertEqual(told_of(house, 1, 1), before)
        house.come(3)
        self.assertEqual((house.may_come(), house.come(4)), ([4], ("write", 0, 0, None)))
        come_all(house)
        self.assertEqual(house.trail(), [(0, ("read", 0), 0), (0, ("write", 0, 5), 0)])

    def test_without_order_the_same_letter_may_come(self):
        for house in (House(1, 1, 1, 1), House(1, 1, 1, 1, False), House(1, 1, 1, 1, ordered=False)):
            house.ask(0, ("read", 0))
            house.ask(0, ("write", 0, 5))
            house.come(1)
            house.come(2)
            self.assertEqual(house.may_come(), [3, 4])
            self.assertEqual(house.come(4), ("write", 0, 0, None))
            self.assertEqual(parts_of(house), [("took", 0, 0, None)])
            come_all(house)
            self.assertEqual(house.answers(0), [0, 0])

    def test_with_order_other_roads_are_free(self):
        house = House(2, 2, 1, 2, True)
        house.ask(0, ("read", 0))
        house.ask(0, ("write", 0, 5))
        house.ask(1, ("read", 0))
        house.come(1)
        house.come(3)
        house.ask(1, ("read", 1))
        self.assertEqual(house.letters(), [
            (2, ("read", 0, 1, None)), (4, ("took", 0, 0, None)), (5, ("write", 0, 0, None))])
        self.assertEqual(house.may_come(), [2, 4])


class TestPlaces(HouseTest):
    def test_a_near_that_is_not_there(self):
        for nears in (1, 2, 16):
            house = House(nears, 2, 1, 1)
            for near in (nears, nears + 1, 17, -1, -nears, LARGEST, -LARGEST):
                self.assert_refused(NoPlace, house.answers, near)
                self.assert_refused(NoPlace, house.waiting, near)
                for line in (0, 1, 2, -1):
                    self.assert_refused(NoPlace, house.may, near, line)
                    self.assert_refused(NoPlace, house.words, near, line)
            self.assert_quiet(house, nears, 2)

    def test_a_line_that_is_not_there(self):
        for lines in (1, 2, 64):
            house = House(2, lines, 1, 1)
            for line in (lines, lines + 1, 65, -1, -lines, LARGEST, -LARGEST):
                self.assert_refused(NoPlace, house.book, line)
                self.assert_refused(NoPlace, house.far, line)
                for near in (0, 1, 2, -1):
                    self.assert_refused(NoPlace, house.may, near, line)
                    self.assert_refused(NoPlace, house.words, near, line)
            self.assert_quiet(house, 2, lines)


class TestTrail(HouseTest):
    def test_across_several_nears(self):
        house = House(3, 2, 2, 2)
        house.ask(2, ("write", 0, 4))
        house.ask(0, ("read", 2))
        house.ask(2, ("add", 2, 1))
        house.ask(1, ("swap", 0, 4, 6))
        self.assertEqual(house.trail(), [])
        come_all(house)
        self.assertEqual(house.trail(), [
            (2, ("write", 0, 4), 0), (0, ("read", 2), 0), (1, ("swap", 0, 4, 6), 4), (2, ("add", 2, 1), 0)])
        house.ask(0, ("read", 0))
        house.ask(0, ("read", 2))
        come_all(house)
        self.assertEqual(house.trail()[4:], [(0, ("read", 0), 6), (0, ("read", 2), 1)])
        self.assertEqual([house.answers(near) for near in range(3)], [[0, 6, 1], [4], [0, 0]])

    def test_several_deeds_answered_by_one_letter(self):
        house = House(2, 1, 2, 1)
        for deed in (("write", 0, 4), ("add", 0, 5), ("read", 1), ("swap", 0, 9, 2), ("read", 0)):
            house.ask(1, deed)
        house.come(1)
        self.assertEqual((house.trail(), len(house.waiting(1))), ([], 5))
        house.come(2)
        self.assertEqual(house.trail(), [
            (1, ("write", 0, 4), 0), (1, ("add", 0, 5), 4), (1, ("read", 1), 0), (1, ("swap", 0, 9, 2), 9),
            (1, ("read", 0), 2)])
        self.assertEqual((house.answers(1), house.waiting(1)), ([0, 4, 0, 9, 2], []))


class TestPicture(HouseTest):
    def test_in_the_middle(self):
        house = House(2, 2, 2, 1)
        house.ask(0, ("write", 1, 5))
        come_all(house)
        house.ask(1, ("read", 0))
        house.ask(0, ("read", 2))
        house.come(house.may_come()[0])
        self.assertEqual(house.picture(), (
            ((((0, "leaving writer", (0, 5)),), (), (("read", 2),)), (((0, "wants read", None),), (), (("read", 0),))),
            (((0, 0), 0, (), (), (("read", 0, 1, None), (("lowered", 0),))), ((0, 0), None, (), (), None)),
            (("lower", 0, 0, None), ("back", 0, 0, (0, 5)))))

    def test_letters_by_line_then_near(self):
        for ordered in (False, True):
            house = House(4, 12, 1, 1, ordered)
            for near, line in ((3, 2), (2, 10), (0, 11), (1, 2)):
                house.ask(near, ("read", line))
            self.assertEqual(house.picture()[2], (
                ("read", 2, 1, None), ("read", 2, 3, None), ("read", 10, 2, None), ("read", 11, 0, None)))

    def test_letters_to_the_near_ahead_of_those_to_the_home(self):
        for ordered in (False, True):
            house = House(2, 1, 1, 1, ordered)
            house.ask(0, ("read", 0))
            come_all(house)
            house.ask(1, ("write", 0, 1))
            house.ask(0, ("add", 0, 1))
            house.come(house.may_come()[0])
            self.assertEqual(parts_of(house), [("write", 0, 0, None), ("yield", 0, 0, None)])
            self.assertEqual(house.picture()[2], (("yield", 0, 0, None), ("write", 0, 0, None)))

    def test_letters_of_one_road(self):
        for ordered in (False, True):
            house = House(1, 2, 1, 1, ordered)
            house.ask(0, ("read", 0))
            house.ask(0, ("read", 1))
            house.come(1)
            house.come(2)
            letters = (("took", 0, 0, None), ("back", 0, 0, None))
            self.assertEqual(house.letters(), [(3, letters[0]), (4, letters[1])])
            self.assertEqual(house.picture()[2], letters if ordered else letters[::-1])

    def test_letters_of_one_road_again(self):
        for ordered in (False, True):
            house = House(2, 1, 1, 1, ordered)
            house.ask(0, ("read", 0))
            come_all(house)
            house.ask(1, ("write", 0, 3))
            house.come(house.may_come()[0])
            house.come(house.may_come()[0])
            house.ask(0, ("write", 0, 4))
            letters = (("yielded", 0, 0, None), ("write", 0, 0, None))
            self.assertEqual(tuple(parts_of(house)), letters)
            self.assertEqual(house.picture()[2], letters if ordered else letters[::-1])

    def test_two_ways_to_one_picture(self):
        one, other = House(2, 2, 1, 1), House(2, 2, 1, 1)
        one.ask(0, ("read", 0))
        one.ask(1, ("read", 1))
        other.ask(1, ("read", 1))
        other.ask(0, ("read", 0))
        self.assertNotEqual(one.letters(), other.letters())
        self.assertEqual(one.picture(), other.picture())

    def test_all_its_parts_are_tuples(self):
        house = House(2, 2, 1, 1)
        for near, deed in ((0, ("write", 0, 1)), (1, ("read", 0)), (0, ("read", 1)), (1, ("add", 1, 2))):
            house.ask(near, deed)
        house.come(1)
        house.come(2)
        self.assertEqual(len(house.picture()), 3)
        parts = [house.picture()]
        while parts:
            part = parts.pop()
            if not isinstance(part, (int, str, type(None))):
                self.assertIs(type(part), tuple)
                parts.extend(part)
        self.assertEqual(len({house.picture(): True, house.twin().picture(): True}), 1)


class TestTold(HouseTest):
    def busy(self, ordered=False):
        house = House(3, 2, 2, 1, ordered)
        house.ask(0, ("write", 0, 4))
        come_all(house)
        for near, deed in ((1, ("read", 0)), (2, ("add", 3, 1)), (0, ("read", 2)), (1, ("read", 1)), (0, ("read", 0))):
            house.ask(near, deed)
        house.come(house.may_come()[0])
        return house

    def test_kinds(self):
        house = self.busy()
        for told in (
                house.letters(), house.may_come(), house.trail(), house.answers(0), house.waiting(0),
                house.book(0)[1]):
            self.assertIs(type(told), list)
        for told in (
                house.letters()[0], house.letters()[0][1], house.trail()[0], house.trail()[0][1],
                house.waiting(0)[0], house.words(0, 0), house.book(0), house.far(0), house.come(house.may_come()[0])):
            self.assertIs(type(told), tuple)
        self.assertIs(type(house.ask(0, ("read", 0))), int)

    def test_asking_changes_nothing(self):
        house = self.busy()
        self.assertEqual(told_of(house, 3, 2), told_of(house, 3, 2))

    def test_lists_told_are_the_askers_own(self):
        house = self.busy()
        before = told_of(house, 3, 2)
        asks = (
            house.letters, house.may_come, house.trail, lambda: house.answers(0), lambda: house.waiting(0),
            lambda: house.book(0)[1])
        for change in (list.clear, list.reverse, lambda told: told.append(9)):
            for ask in asks:
                change(ask())
            self.assertEqual(told_of(house, 3, 2), before)

    def test_lists_told_earlier_stay(self):
        house = self.busy()
        told = [house.letters(), house.may_come(), house.trail(), house.answers(0), house.waiting(0), house.book(0)[1]]
        kept = [list(part) for part in told]
        come_all(house)
        house.ask(0, ("add", 0, 3))
        come_all(house)
        self.assertEqual(told, kept)
        self.assertNotEqual(house.trail(), kept[2])

    def test_a_twin_tells_the_same_and_goes_on_the_same(self):
        for ordered in (False, True):
            house = self.busy(ordered)
            twin = house.twin()
            self.assertIsInstance(twin, House)
            self.assertIsNot(twin, house)
            while house.letters():
                self.assertEqual(told_of(twin, 3, 2), told_of(house, 3, 2))
                number = house.may_come()[-1]
                self.assertEqual(twin.come(number), house.come(number))
            self.assertEqual(told_of(twin, 3, 2), told_of(house, 3, 2))
            self.assertEqual(twin.ask(2, ("add", 0, 1)), house.ask(2, ("add", 0, 1)))
            self.assertEqual(twin.letters(), house.letters())
            self.assertGreater(house.letters()[0][0], 10)

    def test_a_twin_refuses_the_same(self):
        twin = House(2, 3, 4, 1, True).twin()
        self.assert_refused(NoPlace, twin.ask, 2, ("read", 0))
        self.assert_refused(NoPlace, twin.ask, 1, ("read", 12))
        self.assertEqual(twin.ask(1, ("read", 11)), 0)
        self.assertEqual(twin.ask(1, ("write", 11, 5)), 1)
        twin.come(1)
        twin.come(2)
        self.assert_refused(Early, twin.come, 4)

    def test_what_is_done_to_one_does_not_change_the_other(self):
        for ordered in (False, True):
            house = self.busy(ordered)
            twin, before = house.twin(), told_of(house, 3, 2)
            come_all(twin)
            twin.ask(2, ("write", 0, 77))
            come_all(twin)
            twin.ask(1, ("write", 3, 78))
            self.assertEqual(told_of(house, 3, 2), before)
            behind = told_of(twin, 3, 2)
            house.ask(2, ("write", 1, 79))
            come_all(house)
            self.assertEqual(told_of(twin, 3, 2), behind)

    def test_a_twin_of_a_new_house(self):
        for given in ((1, 1, 1, 1), (16, 64, 16, 64), (2, 3, 4, 5, True)):
            self.assert_quiet(House(*given).twin(), given[0], given[1])


class Model:
    """A house once more: nears and homes with a plain dict of letters between them."""

    def __init__(self, nears, lines, width, room, ordered):
        self.nears = [Near(near, width, room) for near in range(nears)]
        self.homes = [Home(line, nears, (0,) * width) for line in range(lines)]
        self.ordered, self.letters, self.last, self.trail, self.seen = ordered, {}, 0, [], [0] * nears

    def goes_home(self, letter):
        return letter[0] in ("read", "write", "back", "lowered", "yielded", "took")

    def send(self, letters, near=None):
        for letter in letters:
            self.last += 1
            self.letters[self.last] = letter
        if near is not None:
            told = self.nears[near].told()
            self.trail += [(near, deed, value) for deed, value in told[self.seen[near]:]]
            self.seen[near] = len(told)

    def ask(self, near, deed):
        count = len(self.nears[near].told()) + len(self.nears[near].waiting())
        self.send(self.nears[near].ask(deed), near)
        return count

    def come(self, number):
        letter = self.letters.pop(number)
        if self.goes_home(letter):
            self.send(self.homes[letter[1]].come(letter))
        else:
            self.send(self.nears[letter[2]].come(letter), letter[2])
        return letter

    def may_come(self):
        if not self.ordered:
            return sorted(self.letters)
        roads = {number: letter[1:3] + (self.goes_home(letter),) for number, letter in self.letters.items()}
        return [number for number in sorted(roads)
                if not any(other < number and roads[other] == roads[number] for other in roads)]

    def picture(self):
        keys = {number: letter[1:3] + (self.goes_home(letter), 0 if self.ordered else letter[0], number)
                for number, letter in self.letters.items()}
        letters = tuple(self.letters[number] for number in sorted(keys, key=keys.get))
        return (tuple(near.picture() for near in self.nears), tuple(home.picture() for home in self.homes), letters)


class TestWalks(HouseTest):
    """A house and the model behind the same deeds and letters, chosen ones, the same at each run."""

    def any_deed(self, chance, addresses):
        word = chance.choice(("read", "read", "write", "add", "swap"))
        values = [chance.choice((0, 1, -1, 2, LARGEST)) for place in range(2)]
        return (word, chance.randrange(addresses)) + tuple(values[:{"read": 0, "swap": 2}.get(word, 1)])

    def walk(self, chance, nears, lines, width, room, ordered):
        house, model = House(nears, lines, width, room, ordered), Model(nears, lines, width, room, ordered)
        for place in range(80):
            may_come = model.may_come()
            if may_come and chance.random() < 0.75:
                number = chance.choice(may_come)
                self.assertEqual(house.come(number), model.come(number))
            else:
                near, deed = chance.randrange(nears), self.any_deed(chance, lines * width)
                self.assertEqual(house.ask(near, deed), model.ask(near, deed))
            self.assertEqual(house.letters(), sorted(model.letters.items()))
            self.assertEqual((house.may_come(), house.trail()), (model.may_come(), model.trail))
            self.assertEqual(house.picture(), model.picture())
            for number in sorted(set(model.letters) - set(model.may_come())):
                self.assert_refused(Early, house.come, number)
            if chance.random() < 0.1:
                house = house.twin()
        for near in range(nears):
            self.assertEqual(house.waiting(near), model.nears[near].waiting())
            self.assertEqual(house.answers(near), [value for deed, value in model.nears[near].told()])
            for line in range(lines):
                self.assertEqual(house.may(near, line), model.nears[near].may(line))
                self.assertEqual(house.words(near, line), model.nears[near].words_of(line))
        for line in range(lines):
            self.assertEqual((house.book(line), house.far(line)), (model.homes[line].book(), model.homes[line].far()))
        return len(house.trail())

    def test_walks(self):
        chance = random.Random(20)
        sizes = ((1, 1, 1, 1), (2, 1, 2, 1), (2, 3, 1, 1), (3, 2, 2, 2), (4, 3, 1, 2), (6, 4, 2, 1), (16, 2, 1, 1))
        answered = sum(self.walk(chance, *size, ordered) for size in sizes * 2 for ordered in (False, True))
        self.assertGreater(answered, 200)


if __name__ == "__main__":
    unittest.main()
