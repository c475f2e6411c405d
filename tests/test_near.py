"""[9], [10], [11] A near: its row of deeds, its lines, its letters, and what is told of it."""

import random
import unittest

from linewarden.errors import NoDeed, Unawaited
from linewarden.near import Near
from odd_things import no_texts

LARGEST = 10 ** 60 - 1
ELEVEN = ("read", "write", "back", "lowered", "yielded", "took", "lower", "yield", "share", "own", "gone")
NO_DEEDS = no_texts() + [
    "read", "read 0", ("read",), ("read", -1), ("read", True), ("read", 0, 0), ("read", "0"), ("read", None),
    ("write", 0), ("write", 0, None), ("write", False, 1), ("write", 0, True), ("write", 0, 1, 2), ("write", -1, 1),
    ("add", 0), ("add", 0, "1"), ("add", 0, (1,)), ("swap", 0, 1), ("swap", 0, 1, 2, 3), ("swap", 0, 1, False),
    ["read", 0], ("took", 0), ("Read", 0), {"read": 0}, (("read", 0),)]

# (kind, word): the next kind, then for the next state's words and the answer's: "own", "come" or None.
STEPS = {
    ("reader", "yield"): ("away", None, "yielded", None),
    ("writer", "lower"): ("reader", "own", "lowered", "own"),
    ("writer", "yield"): ("away", None, "yielded", "own"),
    ("wants read", "share"): ("reader", "come", "took", None),
    ("wants write", "own"): ("writer", "come", "took", None),
    ("wants write", "yield"): ("wants write", None, "yielded", None),
    ("leaving writer", "lower"): ("leaving reader", None, "lowered", "own"),
    ("leaving writer", "yield"): ("leaving empty", None, "yielded", "own"),
    ("leaving writer", "gone"): ("away", None, None, None),
    ("leaving reader", "yield"): ("leaving empty", None, "yielded", None),
    ("leaving reader", "gone"): ("away", None, None, None),
    ("leaving empty", "gone"): ("away", None, None, None),
}


def told_of(near):
    """All that is told of a near, of the first lines and of some far ones."""
    asked = list(range(8)) + [10 ** 59, LARGEST]
    lines = [(near.kind_of(line), near.may(line), near.words_of(line)) for line in asked]
    return (near.told(), near.waiting(), lines, near.lines(), near.used(), near.picture())


class NearTest(unittest.TestCase):
    def assert_unawaited(self, near, letter):
        before = told_of(near)
        for again in range(2):
            with self.assertRaises(Unawaited) as caught:
                near.come(letter)
            self.assertIs(type(caught.exception), Unawaited)
        self.assertEqual(told_of(near), before)

    def assert_state(self, near, line, kind, may, words):
        self.assertEqual((near.kind_of(line), near.may(line), near.words_of(line)), (kind, may, words))


def reading(near, *lines):
    """Lets a near 3 of WIDTH 2 become reader of these lines, in this order."""
    for line in lines:
        near.ask(("read", 2 * line))
        near.come(("share", line, 3, (10 * line, 10 * line + 1)))
    return near


def writing(near, *lines):
    for line in lines:
        near.ask(("write", 2 * line, line))
        near.come(("own", line, 3, (10 * line, 10 * line + 1)))
    return near


class TestAtFirst(NearTest):
    def test_all_lines_are_away(self):
        for number, width, room in ((0, 1, 1), (3, 2, 2), (63, 16, 64)):
            near = Near(number, width, room)
            self.assertEqual((near.told(), near.waiting(), near.lines(), near.used()), ([], [], [], []))
            self.assertEqual(near.picture(), ((), (), ()))
            for line in (0, 1, 63, 10 ** 59, LARGEST):
                self.assert_state(near, line, "away", "none", None)

    def test_arguments_have_their_names(self):
        near = Near(number=3, width=2, room=1)
        self.assertEqual(near.ask(deed=("read", 0)), [("read", 0, 3, None)])
        self.assertEqual(near.come(letter=("share", 0, 3, (5, 6))), [("took", 0, 3, None)])
        self.assertEqual((near.kind_of(line=0), near.may(line=0), near.words_of(line=0)), ("reader", "read", (5, 6)))

    def test_two_nears_have_nothing_in_common(self):
        one, other = Near(3, 2, 1), Near(3, 2, 1)
        reading(one, 0)
        self.assertEqual(told_of(other), told_of(Near(3, 2, 1)))


class TestOneLine(NearTest):
    def test_a_read_of_a_line_that_is_away(self):
        near = Near(3, 2, 1)
        self.assertEqual(near.ask(("read", 5)), [("read", 2, 3, None)])
        self.assert_state(near, 2, "wants read", "none", None)
        self.assertEqual((near.told(), near.waiting(), near.used()), ([], [("read", 5)], []))
        self.assertEqual(near.come(("share", 2, 3, (7, -8))), [("took", 2, 3, None)])
        self.assert_state(near, 2, "reader", "read", (7, -8))
        self.assertEqual((near.told(), near.waiting(), near.used()), ([(("read", 5), -8)], [], [2]))
        self.assertEqual(near.ask(("read", 4)), [])
        self.assertEqual(near.told(), [(("read", 5), -8), (("read", 4), 7)])
        self.assertEqual(near.come(("yield", 2, 3, None)), [("yielded", 2, 3, None)])
        self.assert_state(near, 2, "away", "none", None)
        self.assertEqual(near.picture(), ((), (), ()))

    def test_a_write_of_a_line_that_is_away(self):
        near = Near(3, 2, 1)
        self.assertEqual(near.ask(("write", 5, 9)), [("write", 2, 3, None)])
        self.assert_state(near, 2, "wants write", "none", None)
        self.assertEqual(near.picture(), (((2, "wants write", None),), (), (("write", 5, 9),)))
        self.assertEqual(near.come(("own", 2, 3, (7, -8))), [("took", 2, 3, None)])
        self.assert_state(near, 2, "writer", "write", (7, 9))
        self.assertEqual(near.told(), [(("write", 5, 9), -8)])
        self.assertEqual(near.ask(("read", 5)), [])
        self.assertEqual(near.told()[-1], (("read", 5), 9))
        self.assert_state(near, 2, "writer", "write", (7, 9))

    def test_each_kind_of_deed_on_a_writer(self):
        near = writing(Near(3, 2, 1), 0)
        for deed, value, words in (
                (("add", 1, -LARGEST), 1, (0, 1 - LARGEST)), (("swap", 1, 1, 5), 1 - LARGEST, (0, 1 - LARGEST)),
                (("swap", 1, 1 - LARGEST, 5), 1 - LARGEST, (0, 5)), (("read", 1), 5, (0, 5)),
                (("write", 0, LARGEST), 0, (LARGEST, 5)), (("add", 0, LARGEST), LARGEST, (2 * LARGEST, 5)),
                (("read", 0), 2 * LARGEST, (2 * LARGEST, 5)), (("add", 0, 0), 2 * LARGEST, (2 * LARGEST, 5))):
            self.assertEqual(near.ask(deed), [])
            self.assertEqual(near.told()[-1], (deed, value))
            self.assert_state(near, 0, "writer", "write", words)

    def test_each_deed_but_a_read_asks_to_write(self):
        for deed in (("write", 0, 0), ("add", 0, 0), ("swap", 0, 9, 9)):
            self.assertEqual(Near(3, 2, 1).ask(deed), [("write", 0, 3, None)])
            near = reading(Near(3, 2, 1), 0)
            self.assertEqual(near.ask(deed), [("write", 0, 3, None)])

    def test_a_reader_that_wants_to_write_keeps_its_words_until_it_owns_or_yields(self):
        for early_yield in (False, True):
            near = reading(Near(3, 2, 1), 1)
            self.assertEqual(near.ask(("add", 3, 5)), [("write", 1, 3, None)])
            self.assert_state(near, 1, "wants write", "read", (10, 11))
            self.assertEqual((near.used(), near.waiting()), ([1], [("add", 3, 5)]))
            if early_yield:
                self.assertEqual(near.come(("yield", 1, 3, None)), [("yielded", 1, 3, None)])
                self.assert_state(near, 1, "wants write", "none", None)
                self.assertEqual((near.used(), near.waiting(), near.lines()), ([], [("add", 3, 5)], [1]))
                self.assert_unawaited(near, ("yield", 1, 3, None))
            self.assertEqual(near.come(("own", 1, 3, (20, 21))), [("took", 1, 3, None)])
            self.assert_state(near, 1, "writer", "write", (20, 26))
            self.assertEqual(near.told(), [(("read", 2), 10), (("add", 3, 5), 21)])

    def test_a_writer_is_lowered_and_writes_again(self):
        near = writing(Near(3, 2, 1), 1)
        self.assertEqual(near.come(("lower", 1, 3, None)), [("lowered", 1, 3, (1, 11))])
        self.assert_state(near, 1, "reader", "read", (1, 11))
        self.assertEqual(near.ask(("read", 2)), [])
        self.assertEqual(near.ask(("write", 2, 6)), [("write", 1, 3, None)])
        self.assertEqual(near.come(("own", 1, 3, (1, 11))), [("took", 1, 3, None)])
        self.assertEqual(near.come(("yield", 1, 3, None)), [("yielded", 1, 3, (6, 11))])
        self.assert_state(near, 1, "away", "none", None)

    def test_letters_that_bear_words_which_are_not_looked_at(self):
        near = writing(Near(3, 2, 1), 1)
        self.assertEqual(near.come(("lower", 1, 3, (8, 8))), [("lowered", 1, 3, (1, 11))])
        self.assert_state(near, 1, "reader", "read", (1, 11))
        self.assertEqual(near.come(("yield", 1, 3, (8, 8))), [("yielded", 1, 3, None)])

    def test_width_one_and_far_addresses(self):
        near = Near(0, 1, 2)
        self.assertEqual(near.ask(("write", LARGEST, -LARGEST)), [("write", LARGEST, 0, None)])
        self.assertEqual(near.come(("own", LARGEST, 0, (4,))), [("took", LARGEST, 0, None)])
        self.assertEqual(near.picture(), (((LARGEST, "writer", (-LARGEST,)),), (LARGEST,), ()))


class TestTheRow(NearTest):
    def test_the_first_deed_alone_is_worked_on(self):
        near = Near(3, 2, 4)
        self.assertEqual(near.ask(("read", 0)), [("read", 0, 3, None)])
        for deed in (("read", 2), ("write", 0, 1), ("read", 1)):
            self.assertEqual(near.ask(deed), [])
        self.assertEqual(near.lines(), [0])
        self.assertEqual(near.waiting(), [("read", 0), ("read", 2), ("write", 0, 1), ("read", 1)])
        self.assertEqual(near.come(("share", 0, 3, (5, 6))), [("took", 0, 3, None), ("read", 1, 3, None)])
        self.assertEqual((near.told(), near.lines()), ([(("read", 0), 5)], [0, 1]))
        self.assertEqual(near.waiting(), [("read", 2), ("write", 0, 1), ("read", 1)])

    def test_a_deed_whose_line_is_there_waits_behind_one_whose_line_is_not(self):
        near = reading(Near(3, 2, 4), 0)
        near.ask(("read", 2))
        self.assertEqual(near.ask(("read", 0)), [])
        self.assertEqual((near.told(), near.waiting()), ([(("read", 0), 0)], [("read", 2), ("read", 0)]))
        near.come(("share", 1, 3, (7, 7)))
        self.assertEqual(near.told(), [(("read", 0), 0), (("read", 2), 7), (("read", 0), 0)])

    def test_a_letter_that_comes_lets_all_be_answered_that_can_be(self):
        near = Near(3, 2, 4)
        for deed in (("write", 0, 1), ("add", 0, 2), ("read", 1), ("swap", 0, 3, 9), ("read", 0), ("read", 4)):
            near.ask(deed)
        self.assertEqual(near.come(("own", 0, 3, (50, 60))), [("took", 0, 3, None), ("read", 2, 3, None)])
        self.assertEqual(near.told(), [
            (("write", 0, 1), 50), (("add", 0, 2), 1), (("read", 1), 60), (("swap", 0, 3, 9), 3), (("read", 0), 9)])
        self.assertEqual(near.waiting(), [("read", 4)])
        self.assert_state(near, 0, "writer", "write", (9, 60))

    def test_a_read_and_then_a_write_of_one_line(self):
        near = Near(3, 2, 1)
        near.ask(("read", 0))
        near.ask(("write", 0, 4))
        self.assertEqual(near.come(("share", 0, 3, (1, 2))), [("took", 0, 3, None), ("write", 0, 3, None)])
        self.assert_state(near, 0, "wants write", "read", (1, 2))
        self.assertEqual(near.ask(("read", 1)), [])
        self.assertEqual(near.waiting(), [("write", 0, 4), ("read", 1)])
        self.assertEqual(near.told(), [(("read", 0), 1)])

    def test_a_letter_that_does_not_serve_the_first_deed(self):
        near = reading(Near(3, 2, 4), 0)
        near.ask(("read", 2))
        self.assertEqual(near.come(("yield", 0, 3, None)), [("yielded", 0, 3, None)])
        self.assertEqual((near.waiting(), near.lines()), ([("read", 2)], [1]))


class TestRoom(NearTest):
    def test_room_for_one(self):
        near = reading(Near(3, 2, 1), 0)
        self.assertEqual(near.ask(("read", 2)), [("back", 0, 3, None)])
        self.assert_state(near, 0, "leaving reader", "none", None)
        self.assertEqual((near.lines(), near.used(), near.waiting()), ([0], [], [("read", 2)]))
        self.assertEqual(near.come(("gone", 0, 3, None)), [("read", 1, 3, None)])
        self.assertEqual(near.picture(), (((1, "wants read", None),), (), (("read", 2),)))

    def test_a_writer_is_given_back_with_its_words(self):
        near = writing(Near(3, 2, 1), 4)
        self.assertEqual(near.ask(("add", 2, 1)), [("back", 4, 3, (4, 41))])
        self.assert_state(near, 4, "leaving writer", "none", (4, 41))
        self.assertEqual(near.used(), [])
        self.assertEqual(near.come(("gone", 4, 3, None)), [("write", 1, 3, None)])
        self.assert_state(near, 4, "away", "none", None)

    def test_room_for_two_is_filled_ahead_of_giving_back(self):
        near = Near(3, 2, 2)
        self.assertEqual(near.ask(("read", 0)), [("read", 0, 3, None)])
        near.come(("share", 0, 3, (0, 0)))
        self.assertEqual(near.ask(("read", 2)), [("read", 1, 3, None)])
        near.come(("share", 1, 3, (0, 0)))
        self.assertEqual(near.ask(("read", 4)), [("back", 0, 3, None)])
        self.assertEqual((near.lines(), near.used()), ([0, 1], [1]))

    def test_the_line_used_longest_ago_is_given_back(self):
        near = reading(Near(3, 2, 3), 5, 1, 3)
        self.assertEqual((near.lines(), near.used()), ([1, 3, 5], [5, 1, 3]))
        near.ask(("read", 11))
        self.assertEqual(near.used(), [1, 3, 5])
        near.ask(("read", 3))
        self.assertEqual(near.used(), [3, 5, 1])
        near.ask(("read", 2))
        self.assertEqual(near.used(), [3, 5, 1])
        self.assertEqual(near.ask(("read", 0)), [("back", 3, 3, None)])
        self.assertEqual((near.lines(), near.used()), ([1, 3, 5], [5, 1]))

    def test_a_reader_or_a_writer_by_use_alone(self):
        near = writing(reading(Near(3, 2, 2), 0), 1)
        self.assertEqual(near.twin().ask(("read", 4)), [("back", 0, 3, None)])
        near.ask(("read", 0))
        self.assertEqual(near.ask(("read", 4)), [("back", 1, 3, (1, 11))])

    def test_a_letter_that_lowers_a_line_is_no_use_of_it(self):
        near = writing(Near(3, 2, 2), 0, 1)
        near.come(("lower", 0, 3, None))
        self.assertEqual(near.used(), [0, 1])
        self.assertEqual(near.ask(("read", 4)), [("back", 0, 3, None)])

    def test_a_line_that_went_away_and_came_again_was_used_last(self):
        near = reading(Near(3, 2, 3), 0, 1)
        near.come(("yield", 0, 3, None))
        self.assertEqual(near.used(), [1])
        reading(near, 0)
        self.assertEqual(near.used(), [1, 0])

    def test_one_line_at_a_time_is_given_back(self):
        near = reading(Near(3, 2, 2), 0, 1)
        self.assertEqual(near.ask(("read", 4)), [("back", 0, 3, None)])
        self.assertEqual(near.ask(("read", 6)), [])
        self.assertEqual(near.waiting(), [("read", 4), ("read", 6)])
        self.assertEqual(near.come(("yield", 0, 3, None)), [("yielded", 0, 3, None)])
        self.assert_state(near, 0, "leaving empty", "none", None)
        self.assertEqual(near.come(("gone", 0, 3, None)), [("read", 2, 3, None)])
        self.assertEqual(near.come(("share", 2, 3, (8, 9))), [("took", 2, 3, None), ("back", 1, 3, None)])

    def test_a_yield_that_sets_a_slot_free_serves_the_first_deed_at_once(self):
        near = writing(Near(3, 2, 2), 0, 1)
        self.assertEqual(near.ask(("read", 4)), [("back", 0, 3, (0, 1))])
        self.assertEqual(near.come(("yield", 1, 3, None)), [("yielded", 1, 3, (1, 11)), ("read", 2, 3, None)])
        self.assertEqual(near.lines(), [0, 2])
        self.assert_state(near, 0, "leaving writer", "none", (0, 1))
        self.assertEqual(near.come(("gone", 0, 3, None)), [])
        self.assertEqual(near.come(("share", 2, 3, (8, 9))), [("took", 2, 3, None)])
        self.assertEqual(near.told()[-1], (("read", 4), 8))

    def test_a_deed_on_the_line_that_is_leaving_waits_until_it_is_gone(self):
        near = reading(Near(3, 2, 2), 0, 1)
        near.ask(("write", 4, 1))
        near.ask(("read", 0))
        self.assertEqual(near.come(("yield", 1, 3, None)), [("yielded", 1, 3, None), ("write", 2, 3, None)])
        self.assertEqual(near.come(("own", 2, 3, (8, 9))), [("took", 2, 3, None)])
        self.assertEqual(near.waiting(), [("read", 0)])
        self.assert_state(near, 0, "leaving reader", "none", None)
        self.assertEqual(near.come(("gone", 0, 3, None)), [("read", 0, 3, None)])

    def test_room_for_many(self):
        near = reading(Near(3, 2, 64), *range(64))
        self.assertEqual((near.lines(), near.used()), (list(range(64)), list(range(64))))
        self.assertEqual(near.ask(("read", 128)), [("back", 0, 3, None)])

    def test_a_near_without_room_waits(self):
        near = Near(3, 2, 0)
        self.assertEqual(near.ask(("read", 0)), [])
        self.assertEqual(near.picture(), ((), (), (("read", 0),)))


class TestLettersThatCross(NearTest):
    def test_a_writer_that_is_leaving_is_called(self):
        for word, answer, kind in (("lower", "lowered", "leaving reader"), ("yield", "yielded", "leaving empty")):
            near = writing(Near(3, 2, 1), 4)
            near.ask(("read", 0))
            self.assertEqual(near.come((word, 4, 3, None)), [(answer, 4, 3, (4, 41))])
            self.assert_state(near, 4, kind, "none", None)
            self.assertEqual(near.waiting(), [("read", 0)])
            self.assertEqual(near.come(("gone", 4, 3, None)), [("read", 0, 3, None)])

    def test_a_leaving_writer_is_lowered_and_then_yields(self):
        near = writing(Near(3, 2, 1), 4)
        near.ask(("read", 0))
        near.come(("lower", 4, 3, None))
        self.assert_unawaited(near, ("lower", 4, 3, None))
        self.assertEqual(near.come(("yield", 4, 3, None)), [("yielded", 4, 3, None)])
        self.assert_state(near, 4, "leaving empty", "none", None)
        self.assert_unawaited(near, ("yield", 4, 3, None))
        self.assertEqual(near.come(("gone", 4, 3, None)), [("read", 0, 3, None)])

    def test_a_reader_that_is_leaving_is_called(self):
        near = reading(Near(3, 2, 1), 4)
        near.ask(("read", 0))
        self.assertEqual(near.come(("yield", 4, 3, None)), [("yielded", 4, 3, None)])
        self.assert_state(near, 4, "leaving empty", "none", None)
        self.assertEqual(near.come(("gone", 4, 3, None)), [("read", 0, 3, None)])


class TestRefusals(NearTest):
    def in_each_state(self):
        """Nears 3 with line 0 in each state, by the state's kind (and whether it has words)."""
        return {
            ("away", False): Near(3, 2, 1),
            ("reader", True): reading(Near(3, 2, 1), 0),
            ("writer", True): writing(Near(3, 2, 1), 0),
            ("wants read", False): self.behind(Near(3, 2, 1), ("read", 0)),
            ("wants write", False): self.behind(Near(3, 2, 1), ("write", 0, 5)),
            ("wants write", True): self.behind(reading(Near(3, 2, 1), 0), ("write", 0, 5)),
            ("leaving writer", True): self.behind(writing(Near(3, 2, 1), 0), ("read", 2)),
            ("leaving reader", False): self.behind(reading(Near(3, 2, 1), 0), ("read", 2)),
            ("leaving empty", False): self.called(self.behind(reading(Near(3, 2, 1), 0), ("read", 2))),
        }

    def behind(self, near, deed):
        near.ask(deed)
        return near

    def called(self, near):
        near.come(("yield", 0, 3, None))
        return near

    def awaits(self, state, word):
        return (state[0], word) in STEPS and (state, word) != (("wants write", False), "yield")

    def test_each_state_is_reached(self):
        for (kind, with_words), near in self.in_each_state().items():
            self.assertEqual((near.kind_of(0), near.words_of(0) is not None), (kind, with_words))

    def test_a_word_that_the_state_does_not_await(self):
        for state, near in self.in_each_state().items():
            for word in ELEVEN:
                with self.subTest(state=state, word=word):
                    if self.awaits(state, word):
                        near.twin().come((word, 0, 3, (1, 2)))
                    else:
                        self.assert_unawaited(near, (word, 0, 3, None))
                        self.assert_unawaited(near, (word, 0, 3, (1, 2)))

    def test_what_is_no_word(self):
        for state, near in self.in_each_state().items():
            for word in no_texts() + ["", "Yield", "yield ", "gone\n", "wants read"]:
                self.assert_unawaited(near, (word, 0, 3, None))

    def test_another_nears_number(self):
        for state, near in self.in_each_state().items():
            for word in ELEVEN:
                for number in (0, 2, 4, -3, 63, LARGEST):
                    self.assert_unawaited(near, (word, 0, number, (1, 2)))

    def test_a_line_that_is_away(self):
        for state, near in self.in_each_state().items():
            for word in ELEVEN:
                for line in (2, 63, 10 ** 59, LARGEST):
                    self.assert_unawaited(near, (word, line, 3, (1, 2)))

    def test_what_is_no_deed(self):
        for state, near in self.in_each_state().items():
            before = told_of(near)
            for thing in NO_DEEDS:
                with self.assertRaises(NoDeed) as caught:
                    near.ask(thing)
                self.assertIs(type(caught.exception), NoDeed)
            self.assertEqual(told_of(near), before)

    def test_behind_refusals_all_goes_on(self):
        near = Near(3, 2, 1)
        self.assertRaises(NoDeed, near.ask, ("read", -1))
        self.assertRaises(Unawaited, near.come, ("share", 0, 3, (1, 2)))
        self.assertEqual(near.ask(("read", 0)), [("read", 0, 3, None)])
        self.assertRaises(Unawaited, near.come, ("own", 0, 3, (1, 2)))
        self.assertRaises(NoDeed, near.ask, ["read", 0])
        self.assertEqual(near.come(("share", 0, 3, (3, 4))), [("took", 0, 3, None)])
        self.assertEqual(near.told(), [(("read", 0), 3)])


class TestTold(NearTest):
    def filled(self):
        near = writing(reading(Near(3, 2, 3), 6, 2), 4)
        for deed in (("read", 12), ("read", 0), ("write", 4, 1)):
            near.ask(deed)
        return near

    def test_the_picture(self):
        near = self.filled()
        self.assertEqual(near.picture(), (
            ((2, "leaving reader", None), (4, "writer", (4, 41)), (6, "reader", (60, 61))), (4, 6),
            (("read", 0), ("write", 4, 1))))
        near.come(("gone", 2, 3, None))
        self.assertEqual(near.picture(), (
            ((0, "wants read", None), (4, "writer", (4, 41)), (6, "reader", (60, 61))), (4, 6),
            (("read", 0), ("write", 4, 1))))

    def test_kinds_of_what_is_told(self):
        near = self.filled()
        for told in (near.told(), near.waiting(), near.lines(), near.used(), near.ask(("read", 0))):
            self.assertIs(type(told), list)
        for told in (near.told()[0], near.told()[0][0], near.waiting()[0], near.words_of(4)):
            self.assertIs(type(told), tuple)
        picture = near.picture()
        self.assertEqual([type(part) for part in picture], [tuple] * 3)
        self.assertEqual([type(row) for row in picture[0]], [tuple] * 3)
        self.assertIs(type(picture), tuple)
        letters = near.come(("gone", 2, 3, None))
        self.assertIs(type(letters), list)
        self.assertIs(type(letters[0]), tuple)

    def test_asking_changes_nothing(self):
        near = self.filled()
        self.assertEqual(told_of(near), told_of(near))
        self.assertEqual(near.lines(), [2, 4, 6])

    def test_lists_told_earlier_stay(self):
        near = self.filled()
        told = [near.told(), near.waiting(), near.lines(), near.used()]
        kept = [list(part) for part in told]
        sent = near.come(("gone", 2, 3, None))
        near.come(("share", 0, 3, (1, 2)))
        near.ask(("read", 40))
        self.assertEqual(told, kept)
        self.assertEqual(sent, [("read", 0, 3, None)])

    def test_what_the_asker_does_with_a_list_changes_nothing(self):
        near = self.filled()
        before = told_of(near)
        for change in (list.clear, list.reverse, lambda told: told.append(9), lambda told: told.pop()):
            for ask in (near.told, near.waiting, near.lines, near.used):
                change(ask())
            self.assertEqual(told_of(near), before)
        near.ask(("read", 0)).append(9)
        near.come(("gone", 2, 3, None)).clear()
        self.assertEqual(near.ask(("read", 0)), [])


class TestTwins(NearTest):
    def test_a_twin_tells_the_same_and_goes_on_the_same(self):
        near = reading(Near(3, 2, 2), 0, 1)
        near.ask(("read", 0))
        near.ask(("read", 4))
        twin = near.twin()
        self.assertIsInstance(twin, Near)
        self.assertIsNot(twin, near)
        for letter in (("gone", 1, 3, None), ("share", 2, 3, (4, 5)), ("yield", 0, 3, None)):
            self.assertEqual(told_of(twin), told_of(near))
            self.assertEqual(twin.come(letter), near.come(letter))
        self.assertEqual(told_of(twin), told_of(near))
        self.assertEqual(twin.ask(("add", 4, 1)), near.ask(("add", 4, 1)))

    def test_what_is_done_to_one_does_not_change_the_other(self):
        near = writing(Near(3, 2, 2), 0, 1)
        twin = near.twin()
        before = told_of(near)
        twin.ask(("write", 0, 77))
        twin.come(("yield", 1, 3, None))
        twin.ask(("read", 8))
        self.assertEqual(told_of(near), before)
        behind = told_of(twin)
        near.ask(("read", 12))
        near.come(("yield", 1, 3, None))
        self.assertEqual(told_of(twin), behind)

    def test_a_twin_has_the_same_number_width_and_room(self):
        twin = Near(5, 3, 1).twin()
        self.assertEqual(twin.ask(("read", 7)), [("read", 2, 5, None)])
        self.assertEqual(twin.come(("share", 2, 5, (1, 2, 3))), [("took", 2, 5, None)])
        self.assertEqual(twin.ask(("read", 0)), [("back", 2, 5, None)])


class Model:
    """A near once more, straight from the points' words, over tables and full walks alone."""

    def __init__(self, number, width, room):
        self.number, self.width, self.room = number, width, room
        self.kinds, self.held_words, self.last_use = {}, {}, {}
        self.clock, self.row, self.told = 0, [], []

    def kind(self, line):
        return self.kinds.get(line, "away")

    def may(self, line):
        kind = self.kind(line)
        if kind == "wants write":
            return "none" if self.held_words.get(line) is None else "read"
        return {"reader": "read", "writer": "write"}.get(kind, "none")

    def lines(self):
        return sorted(line for line in self.kinds if self.kinds[line] != "away")

    def used(self):
        return sorted((line for line in self.lines() if self.may(line) != "none"), key=self.last_use.get)

    def picture(self):
        rows = tuple((line, self.kind(line), self.held_words.get(line)) for line in self.lines())
        return (rows, tuple(self.used()), tuple(self.row))

    def set(self, line, kind, words):
        self.kinds[line], self.held_words[line] = kind, words

    def awaits(self, letter):
        word, line, near, words = letter
        if near != self.number or (self.kind(line), word) not in STEPS:
            return False
        return not (word == "yield" and self.kind(line) == "wants write" and self.held_words[line] is None)

    def come(self, letter):
        word, line, near, words = letter
        kind, state_words, answer, answer_words = STEPS[self.kind(line), word]
        choice = {"own": self.held_words[line], "come": words, None: None}
        sent = [(answer, line, near, choice[answer_words])] if answer else []
        self.set(line, kind, choice[state_words])
        return sent + self.work()

    def ask(self, deed):
        self.row.append(deed)
        return self.work()

    def answer(self, deed, line):
        words = list(self.held_words[line])
        found = words[deed[1] % self.width]
        behind = {"read": lambda: found, "write": lambda: deed[2], "add": lambda: found + deed[2],
                  "swap": lambda: deed[3] if found == deed[2] else found}[deed[0]]()
        words[deed[1] % self.width] = behind
        self.held_words[line] = tuple(words)
        self.clock += 1
        self.last_use[line] = self.clock
        self.told.append((deed, found))
        del self.row[0]

    def work(self):
        while self.row:
            deed = self.row[0]
            line = deed[1] // self.width
            wants = "read" if deed[0] == "read" else "write"
            if self.may(line) == "write" or self.may(line) == wants:
                self.answer(deed, line)
                continue
            if self.kind(line) == "reader":
                self.set(line, "wants write", self.held_words[line])
                return [("write", line, self.number, None)]
            if self.kind(line) == "away" and len(self.lines()) < self.room:
                self.set(line, "wants " + wants, None)
                return [(wants, line, self.number, None)]
            if self.kind(line) == "away" and not any(self.kind(other).startswith("leaving") for other in self.lines()):
                return self.give_back(self.used()[0])
            return []
        return []

    def give_back(self, line):
        words = self.held_words[line] if self.kind(line) == "writer" else None
        self.set(line, "leaving " + self.kind(line), words)
        return [("back", line, self.number, words)]


class TestWalks(NearTest):
    """A near and the model behind the same deeds and letters, chosen ones, the same at each run."""

    def any_deed(self, chance, lines, width):
        address = chance.randrange(lines * width)
        values = [chance.choice((0, 1, -1, 2, LARGEST, -LARGEST)) for place in range(2)]
        word = chance.choice(("read", "read", "write", "add", "swap"))
        return (word, address) + tuple(values[:{"read": 0, "swap": 2}.get(word, 1)])

    def any_letter(self, chance, model, lines, width):
        words = tuple(chance.randrange(3) for place in range(width))
        letters = [(word, line, model.number, words) for word in ELEVEN for line in range(lines)]
        awaited = [letter for letter in letters if model.awaits(letter)]
        if awaited and chance.random() < 0.8:
            return chance.choice(awaited)
        return chance.choice(letters)[:2] + (chance.choice((model.number, model.number + 1)), words)

    def step(self, chance, near, model, lines, width):
        if chance.random() < 0.35:
            deed = self.any_deed(chance, lines, width)
            self.assertEqual(near.ask(deed), model.ask(deed))
            return
        letter = self.any_letter(chance, model, lines, width)
        if model.awaits(letter):
            self.assertEqual(near.come(letter), model.come(letter))
        else:
            self.assert_unawaited(near, letter)

    def walk(self, chance, lines, width, room):
        near, model = Near(6, width, room), Model(6, width, room)
        for place in range(150):
            self.step(chance, near, model, lines, width)
            self.assertEqual(near.picture(), model.picture())
            self.assertEqual((near.told(), near.waiting()), (model.told, model.row))
            self.assertEqual((near.lines(), near.used()), (model.lines(), model.used()))
            for line in range(lines):
                self.assert_state(near, line, model.kind(line), model.may(line), model.held_words.get(line))
            if chance.random() < 0.1:
                near = near.twin()
        return near

    def test_walks(self):
        chance = random.Random(9)
        answered = 0
        for lines, width, room in ((1, 1, 1), (2, 1, 1), (3, 2, 1), (3, 2, 2), (5, 3, 3), (8, 2, 4), (4, 16, 64)) * 8:
            answered += len(self.walk(chance, lines, width, room).told())
        self.assertGreater(answered, 500)


if __name__ == "__main__":
    unittest.main()
