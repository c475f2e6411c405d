"""[13], [14], [15] A home: its line's words, its book, its row, what is at work, and its letters."""

import random
import unittest

from linewarden.errors import Unawaited
from linewarden.home import Home
from odd_things import no_texts

LARGEST = 10 ** 60 - 1
ELEVEN = ("read", "write", "back", "lowered", "yielded", "took", "lower", "yield", "share", "own", "gone")
ASKING = ("read", "write", "back")


def told_of(home):
    return (home.far(), home.book(), home.row(), home.work(), home.picture())


def fresh():
    """The home of line 4, of two words, in a house with five nears."""
    return Home(4, 5, (1, 2))


def letter(word, near, words=None):
    return (word, 4, near, words)


def through(home, word, near, words=None):
    """Brings a letter that asks, then all answers that the home awaits, with these words from a writer."""
    home.come(letter(word, near))
    while home.work():
        awaited, other = home.work()[1][0]
        home.come(letter(awaited, other, words if home.book()[0] == other and awaited != "took" else None))
    return home


def read_by(*nears):
    home = fresh()
    for near in nears:
        through(home, "read", near)
    return home


def written_by(near):
    return through(fresh(), "write", near)


class HomeTest(unittest.TestCase):
    def assert_told(self, home, far, book, row, work):
        self.assertEqual((home.far(), home.book(), home.row(), home.work()), (far, book, row, work))
        shown = None if work is None else (work[0], tuple(work[1]))
        self.assertEqual(home.picture(), (far, book[0], tuple(book[1]), tuple(row), shown))

    def assert_unawaited(self, home, refused):
        before = told_of(home)
        for again in range(2):
            with self.assertRaises(Unawaited) as caught:
                home.come(refused)
            self.assertIs(type(caught.exception), Unawaited)
        self.assertEqual(told_of(home), before)


class TestAtFirst(HomeTest):
    def test_nobody_holds_the_line(self):
        for line, nears, words in ((0, 1, (0,)), (4, 5, (1, 2)), (63, 64, (7,) * 16), (LARGEST, 64, (-LARGEST,))):
            self.assert_told(Home(line, nears, words), words, (None, []), [], None)

    def test_arguments_have_their_names(self):
        home = Home(line=4, nears=5, words=(1, 2))
        self.assertEqual(home.come(letter=("read", 4, 0, None)), [("share", 4, 0, (1, 2))])

    def test_two_homes_have_nothing_in_common(self):
        one, other = fresh(), fresh()
        one.come(letter("read", 0))
        one.come(letter("write", 1))
        self.assertEqual(told_of(other), told_of(fresh()))


class TestRead(HomeTest):
    def test_with_nobody(self):
        home = fresh()
        self.assertEqual(home.come(letter("read", 2)), [letter("share", 2, (1, 2))])
        self.assert_told(home, (1, 2), (None, [2]), [], (letter("read", 2), [("took", 2)]))
        self.assertEqual(home.come(letter("took", 2)), [])
        self.assert_told(home, (1, 2), (None, [2]), [], None)

    def test_with_a_reader_and_with_readers(self):
        home = read_by(3)
        self.assertEqual(home.come(letter("read", 0)), [letter("share", 0, (1, 2))])
        self.assert_told(home, (1, 2), (None, [0, 3]), [], (letter("read", 0), [("took", 0)]))
        self.assertEqual(home.come(letter("took", 0)), [])
        self.assertEqual(home.come(letter("read", 1)), [letter("share", 1, (1, 2))])
        self.assert_told(home, (1, 2), (None, [0, 1, 3]), [], (letter("read", 1), [("took", 1)]))

    def test_with_a_writer(self):
        home = written_by(3)
        self.assertEqual(home.come(letter("read", 1)), [letter("lower", 3)])
        self.assert_told(home, (1, 2), (3, []), [], (letter("read", 1), [("lowered", 3)]))
        self.assertEqual(home.come(letter("lowered", 3, (8, 9))), [letter("share", 1, (8, 9))])
        self.assert_told(home, (8, 9), (None, [1, 3]), [], (letter("read", 1), [("took", 1)]))
        self.assertEqual(home.come(letter("took", 1)), [])
        self.assert_told(home, (8, 9), (None, [1, 3]), [], None)

    def test_near_0_is_a_writer_like_others(self):
        home = written_by(0)
        self.assertEqual(home.come(letter("read", 1)), [letter("lower", 0)])
        self.assertEqual(home.come(letter("lowered", 0, (8, 9))), [letter("share", 1, (8, 9))])
        self.assertEqual(home.book(), (None, [0, 1]))


class TestWrite(HomeTest):
    def test_with_nobody(self):
        home = fresh()
        self.assertEqual(home.come(letter("write", 0)), [letter("own", 0, (1, 2))])
        self.assert_told(home, (1, 2), (0, []), [], (letter("write", 0), [("took", 0)]))
        self.assertEqual(home.come(letter("took", 0)), [])
        self.assert_told(home, (1, 2), (0, []), [], None)

    def test_with_its_own_near_as_the_one_reader(self):
        home = read_by(2)
        self.assertEqual(home.come(letter("write", 2)), [letter("own", 2, (1, 2))])
        self.assert_told(home, (1, 2), (2, []), [], (letter("write", 2), [("took", 2)]))

    def test_with_another_reader(self):
        home = read_by(2)
        self.assertEqual(home.come(letter("write", 4)), [letter("yield", 2)])
        self.assert_told(home, (1, 2), (None, [2]), [], (letter("write", 4), [("yielded", 2)]))
        self.assertEqual(home.come(letter("yielded", 2)), [letter("own", 4, (1, 2))])
        self.assert_told(home, (1, 2), (4, []), [], (letter("write", 4), [("took", 4)]))

    def test_with_readers_that_yield_in_any_order(self):
        home = read_by(3, 0, 4, 1)
        self.assertEqual(home.come(letter("write", 2)), [letter("yield", near) for near in (0, 1, 3, 4)])
        work = letter("write", 2)
        self.assert_told(
            home, (1, 2), (None, [0, 1, 3, 4]), [],
            (work, [("yielded", 0), ("yielded", 1), ("yielded", 3), ("yielded", 4)]))
        self.assertEqual(home.come(letter("yielded", 3)), [])
        self.assert_told(
            home, (1, 2), (None, [0, 1, 4]), [], (work, [("yielded", 0), ("yielded", 1), ("yielded", 4)]))
        self.assertEqual(home.come(letter("yielded", 0)), [])
        self.assertEqual(home.come(letter("yielded", 4)), [])
        self.assert_told(home, (1, 2), (None, [1]), [], (work, [("yielded", 1)]))
        self.assertEqual(home.come(letter("yielded", 1)), [letter("own", 2, (1, 2))])
        self.assert_told(home, (1, 2), (2, []), [], (work, [("took", 2)]))

    def test_with_its_own_near_among_the_readers(self):
        home = read_by(0, 1, 2)
        self.assertEqual(home.come(letter("write", 1)), [letter("yield", 0), letter("yield", 2)])
        self.assertEqual(home.work(), (letter("write", 1), [("yielded", 0), ("yielded", 2)]))
        self.assertEqual(home.come(letter("yielded", 2)), [])
        self.assert_told(home, (1, 2), (None, [0, 1]), [], (letter("write", 1), [("yielded", 0)]))
        self.assertEqual(home.come(letter("yielded", 0)), [letter("own", 1, (1, 2))])
        self.assert_told(home, (1, 2), (1, []), [], (letter("write", 1), [("took", 1)]))

    def test_with_a_writer(self):
        home = written_by(3)
        self.assertEqual(home.come(letter("write", 1)), [letter("yield", 3)])
        self.assert_told(home, (1, 2), (3, []), [], (letter("write", 1), [("yielded", 3)]))
        self.assertEqual(home.come(letter("yielded", 3, (8, 9))), [letter("own", 1, (8, 9))])
        self.assert_told(home, (8, 9), (1, []), [], (letter("write", 1), [("took", 1)]))
        self.assertEqual(home.come(letter("took", 1)), [])
        self.assert_told(home, (8, 9), (1, []), [], None)

    def test_all_sixty_four_nears(self):
        home = Home(0, 64, (5,))
        for near in range(64):
            self.assertEqual(home.come(("read", 0, near, None)), [("share", 0, near, (5,))])
            self.assertEqual(home.come(("took", 0, near, None)), [])
        self.assertEqual(home.book(), (None, list(range(64))))
        sent = home.come(("write", 0, 63, None))
        self.assertEqual(sent, [("yield", 0, near, None) for near in range(63)])
        for near in range(62, 0, -1):
            self.assertEqual(home.come(("yielded", 0, near, None)), [])
        self.assertEqual(home.come(("yielded", 0, 0, None)), [("own", 0, 63, (5,))])
        self.assertEqual(home.book(), (63, []))


class TestBack(HomeTest):
    def test_of_the_writer(self):
        home = written_by(3)
        self.assertEqual(home.come(letter("back", 3, (8, 9))), [letter("gone", 3)])
        self.assert_told(home, (8, 9), (None, []), [], None)

    def test_of_a_reader(self):
        home = read_by(3)
        self.assertEqual(home.come(letter("back", 3)), [letter("gone", 3)])
        self.assert_told(home, (1, 2), (None, []), [], None)
        home = read_by(0, 3, 4)
        self.assertEqual(home.come(letter("back", 3)), [letter("gone", 3)])
        self.assert_told(home, (1, 2), (None, [0, 4]), [], None)

    def test_of_a_near_that_is_neither(self):
        for home in (fresh(), read_by(0), read_by(0, 4), written_by(0)):
            before = told_of(home)
            self.assertEqual(home.come(letter("back", 3)), [letter("gone", 3)])
            self.assertEqual(told_of(home), before)

    def test_words_of_a_back_of_one_that_is_not_the_writer_are_not_looked_at(self):
        for home in (fresh(), read_by(3), read_by(0, 3), written_by(0)):
            self.assertEqual(home.come(letter("back", 3, (8, 9))), [letter("gone", 3)])
            self.assertEqual(home.far(), (1, 2))

    def test_the_line_is_read_and_written_again(self):
        home = written_by(3)
        home.come(letter("back", 3, (8, 9)))
        self.assertEqual(home.twin().come(letter("read", 3)), [letter("share", 3, (8, 9))])
        self.assertEqual(home.come(letter("write", 0)), [letter("own", 0, (8, 9))])


class TestTheRow(HomeTest):
    def test_letters_stand_while_one_is_at_work(self):
        home = fresh()
        home.come(letter("write", 2))
        for asked in (letter("read", 0), letter("write", 4), letter("back", 1)):
            self.assertEqual(home.come(asked), [])
        row = [letter("read", 0), letter("write", 4), letter("back", 1)]
        self.assert_told(home, (1, 2), (2, []), row, (letter("write", 2), [("took", 2)]))
        self.assertEqual(home.come(letter("took", 2)), [letter("lower", 2)])
        self.assert_told(home, (1, 2), (2, []), row[1:], (letter("read", 0), [("lowered", 2)]))
        self.assertEqual(home.come(letter("lowered", 2, (3, 4))), [letter("share", 0, (3, 4))])
        self.assert_told(home, (3, 4), (None, [0, 2]), row[1:], (letter("read", 0), [("took", 0)]))
        self.assertEqual(home.come(letter("took", 0)), [letter("yield", 0), letter("yield", 2)])
        self.assert_told(home, (3, 4), (None, [0, 2]), row[2:], (letter("write", 4), [("yielded", 0), ("yielded", 2)]))
        self.assertEqual(home.come(letter("yielded", 2)), [])
        self.assertEqual(home.come(letter("yielded", 0)), [letter("own", 4, (3, 4))])
        self.assertEqual(home.come(letter("took", 4)), [letter("gone", 1)])
        self.assert_told(home, (3, 4), (4, []), [], None)

    def test_a_letter_stands_as_it_came(self):
        home = fresh()
        home.come(letter("read", 2, (6, 6)))
        self.assertEqual(home.work()[0], letter("read", 2, (6, 6)))
        for asked in (letter("back", 0, (7, 7)), letter("write", 4, (5, 5))):
            home.come(asked)
        self.assertEqual(home.row(), [letter("back", 0, (7, 7)), letter("write", 4, (5, 5))])

    def test_several_back_one_behind_the_other(self):
        home = read_by(0, 1, 2, 3)
        home.come(letter("read", 4))
        for near in (2, 0, 3):
            self.assertEqual(home.come(letter("back", near)), [])
        self.assertEqual(home.come(letter("took", 4)), [letter("gone", 2), letter("gone", 0), letter("gone", 3)])
        self.assert_told(home, (1, 2), (None, [1, 4]), [], None)

    def test_several_back_ahead_of_one_that_is_at_work_then(self):
        home = read_by(0, 1, 2)
        home.come(letter("read", 4))
        for asked in (letter("back", 2), letter("back", 0), letter("write", 3), letter("back", 1)):
            self.assertEqual(home.come(asked), [])
        self.assertEqual(home.come(letter("took", 4)), [
            letter("gone", 2), letter("gone", 0), letter("yield", 1), letter("yield", 4)])
        self.assert_told(
            home, (1, 2), (None, [1, 4]), [letter("back", 1)],
            (letter("write", 3), [("yielded", 1), ("yielded", 4)]))
        self.assertEqual(home.come(letter("yielded", 1)), [])
        self.assertEqual(home.come(letter("yielded", 4)), [letter("own", 3, (1, 2))])
        self.assertEqual(home.come(letter("took", 3)), [letter("gone", 1)])
        self.assert_told(home, (1, 2), (3, []), [], None)

    def test_a_back_and_then_a_letter_that_is_granted_at_once(self):
        home = written_by(2)
        home.come(letter("read", 4))
        home.come(letter("back", 1))
        home.come(letter("read", 0))
        home.come(letter("lowered", 2, (8, 9)))
        self.assertEqual(home.come(letter("took", 4)), [letter("gone", 1), letter("share", 0, (8, 9))])
        self.assert_told(home, (8, 9), (None, [0, 2, 4]), [], (letter("read", 0), [("took", 0)]))

    def test_a_back_of_the_writer_that_was_called_meanwhile(self):
        for asked, called, answer, readers in (
                ("read", "lower", "lowered", [1]), ("write", "yield", "yielded", [])):
            home = written_by(3)
            self.assertEqual(home.come(letter(asked, 1)), [letter(called, 3)])
            self.assertEqual(home.come(letter("back", 3, (8, 9))), [])
            self.assertEqual((home.far(), home.book()), ((1, 2), (3, [])))
            home.come(letter(answer, 3, (8, 9)))
            self.assertEqual(home.come(letter("took", 1)), [letter("gone", 3)])
            writer = 1 if asked == "write" else None
            self.assert_told(home, (8, 9), (writer, readers), [], None)

    def test_a_back_of_the_writer_at_its_turn(self):
        home = fresh()
        home.come(letter("write", 3))
        self.assertEqual(home.come(letter("back", 3, (8, 9))), [])
        self.assertEqual(home.come(letter("write", 0)), [])
        self.assertEqual(home.far(), (1, 2))
        self.assertEqual(home.come(letter("took", 3)), [letter("gone", 3), letter("own", 0, (8, 9))])
        self.assert_told(home, (8, 9), (0, []), [], (letter("write", 0), [("took", 0)]))

    def test_a_back_of_one_that_yielded_while_another_writes(self):
        home = written_by(3)
        home.come(letter("write", 1))
        home.come(letter("back", 3, (8, 9)))
        home.come(letter("yielded", 3, (8, 9)))
        home.come(letter("read", 0))
        self.assertEqual(home.come(letter("took", 1)), [letter("gone", 3), letter("lower", 1)])
        self.assertEqual(home.come(letter("lowered", 1, (6, 7))), [letter("share", 0, (6, 7))])
        self.assertEqual(home.far(), (6, 7))

    def test_a_took_of_a_letter_leads_on_without_end(self):
        home = fresh()
        home.come(letter("write", 0))
        for near in (1, 2, 3, 4):
            home.come(letter("write", near))
        for near in (0, 1, 2, 3):
            self.assertEqual(home.come(letter("took", near)), [letter("yield", near)])
            self.assertEqual(home.come(letter("yielded", near, (near, 7))), [letter("own", near + 1, (near, 7))])
        self.assertEqual(home.come(letter("took", 4)), [])
        self.assert_told(home, (3, 7), (4, []), [], None)


class TestRefusals(HomeTest):
    def homes(self):
        """Homes at many places of their way."""
        lowering, yielding, mixed = written_by(3), read_by(0, 1, 2), read_by(0)
        lowering.come(letter("read", 1))
        yielding.come(letter("write", 1))
        yielding.come(letter("back", 0))
        mixed.come(letter("read", 4))
        for asked in (letter("write", 2), letter("back", 0), letter("read", 1)):
            mixed.come(asked)
        return [fresh(), read_by(2), read_by(0, 4), written_by(0), written_by(3), lowering, yielding, mixed]

    def test_another_line(self):
        for home in self.homes():
            for word in ELEVEN:
                for line in (0, 3, 5, -4, 63, LARGEST):
                    for near in range(5):
                        self.assert_unawaited(home, (word, line, near, (1, 2)))

    def test_a_near_that_is_not_there(self):
        for home in self.homes():
            for word in ELEVEN:
                for near in (-1, -2, -5, 5, 6, 63, 64, LARGEST, -LARGEST):
                    self.assert_unawaited(home, letter(word, near, (1, 2)))

    def test_the_last_near_is_there(self):
        for nears in (1, 2, 63, 64):
            home = Home(0, nears, (0,))
            self.assert_unawaited(home, ("read", 0, nears, None))
            self.assertEqual(home.come(("read", 0, nears - 1, None)), [("share", 0, nears - 1, (0,))])

    def test_words_that_go_to_nears_and_what_is_no_word(self):
        for home in self.homes():
            for word in list(ELEVEN[6:]) + ["", "Read", "read ", "back\n", "write0", "nobody"] + no_texts():
                for near in range(5):
                    self.assert_unawaited(home, letter(word, near))

    def test_answers_that_are_not_awaited(self):
        for home in self.homes():
            awaited = home.work()[1] if home.work() else []
            for word in ("lowered", "yielded", "took"):
                for near in range(5):
                    if (word, near) not in awaited:
                        self.assert_unawaited(home, letter(word, near, (8, 9)))

    def test_an_answer_is_awaited_once(self):
        home = read_by(0, 1)
        home.come(letter("write", 2))
        home.come(letter("yielded", 0))
        self.assert_unawaited(home, letter("yielded", 0))
        home.come(letter("yielded", 1))
        self.assert_unawaited(home, letter("yielded", 1))
        home.come(letter("took", 2))
        self.assert_unawaited(home, letter("took", 2))
        home.come(letter("read", 0))
        home.come(letter("lowered", 2, (8, 9)))
        self.assert_unawaited(home, letter("lowered", 2, (8, 9)))

    def test_a_near_that_has_asked_already(self):
        for first in ASKING:
            for second in ASKING:
                with self.subTest(first=first, second=second):
                    home = fresh()
                    home.come(letter("write", 4))
                    home.come(letter(first, 2, (3, 4)))
                    self.assert_unawaited(home, letter(second, 2, (3, 4)))
                    home.come(letter("read", 0))
                    self.assert_unawaited(home, letter(second, 2, (3, 4)))
                    self.assert_unawaited(home, letter(second, 0, (3, 4)))

    def test_a_near_whose_letter_is_at_work_and_not_granted(self):
        for home, asked in ((written_by(3), "read"), (written_by(3), "write"), (read_by(0, 4), "write")):
            home.come(letter(asked, 1))
            for word in ASKING:
                self.assert_unawaited(home, letter(word, 1, (3, 4)))

    def test_a_near_whose_letter_is_granted_may_ask_again(self):
        for home, asked in ((fresh(), "read"), (fresh(), "write"), (read_by(4), "read"), (read_by(1), "write")):
            home.come(letter(asked, 1))
            self.assertEqual(home.work()[1], [("took", 1)])
            self.assertEqual(home.come(letter("back", 1, (3, 4))), [])
            self.assertEqual(home.row(), [letter("back", 1, (3, 4))])
            for word in ASKING:
                self.assert_unawaited(home, letter(word, 1, (3, 4)))
            self.assertEqual(home.come(letter("took", 1)), [letter("gone", 1)])
            self.assertEqual(home.book()[0], None)
            self.assertNotIn(1, home.book()[1])

    def test_a_reader_asks_to_write_ahead_of_its_took(self):
        home = fresh()
        home.come(letter("read", 1))
        self.assertEqual(home.come(letter("write", 1)), [])
        self.assertEqual(home.come(letter("took", 1)), [letter("own", 1, (1, 2))])
        self.assert_told(home, (1, 2), (1, []), [], (letter("write", 1), [("took", 1)]))

    def test_others_may_ask_while_one_is_at_work(self):
        home = written_by(3)
        home.come(letter("read", 1))
        for near in (0, 2, 4):
            self.assertEqual(home.come(letter("read", near)), [])
        self.assertEqual(home.come(letter("back", 3, (8, 9))), [])

    def test_what_was_refused_may_come_later(self):
        home = written_by(3)
        self.assert_unawaited(home, letter("lowered", 3, (8, 9)))
        self.assert_unawaited(home, letter("took", 1))
        home.come(letter("read", 1))
        self.assert_unawaited(home, letter("yielded", 3, (8, 9)))
        self.assert_unawaited(home, letter("lowered", 1, (8, 9)))
        self.assert_unawaited(home, letter("back", 1))
        self.assertEqual(home.come(letter("lowered", 3, (8, 9))), [letter("share", 1, (8, 9))])
        self.assertEqual(home.come(letter("back", 1)), [])
        self.assertEqual(home.come(letter("took", 1)), [letter("gone", 1)])
        self.assert_unawaited(home, letter("yielded", 3))
        home.come(letter("write", 1))
        self.assertEqual(home.come(letter("yielded", 3)), [letter("own", 1, (8, 9))])

    def test_words_that_are_not_looked_at(self):
        plain, wordy = read_by(0), read_by(0)
        for word, near in (
                ("read", 1), ("took", 1), ("write", 2), ("yielded", 1), ("yielded", 0), ("back", 0), ("took", 2),
                ("back", 4)):
            self.assertEqual(wordy.come(letter(word, near, (8, 9))), plain.come(letter(word, near)))
            self.assertEqual((wordy.far(), wordy.book()), (plain.far(), plain.book()))
        self.assertEqual(wordy.far(), (1, 2))


class TestTold(HomeTest):
    def busy(self):
        home = read_by(0, 1, 3)
        for asked in (letter("write", 2), letter("back", 1), letter("read", 4)):
            home.come(asked)
        return home

    def test_the_picture(self):
        home = self.busy()
        self.assertEqual(home.picture(), (
            (1, 2), None, (0, 1, 3), (letter("back", 1), letter("read", 4)),
            (letter("write", 2), (("yielded", 0), ("yielded", 1), ("yielded", 3)))))
        self.assertEqual(written_by(3).picture(), ((1, 2), 3, (), (), None))

    def test_kinds(self):
        home = self.busy()
        for told, kind in (
                (home.far(), tuple), (home.book(), tuple), (home.book()[1], list), (home.row(), list),
                (home.row()[0], tuple), (home.work(), tuple), (home.work()[0], tuple), (home.work()[1], list),
                (home.work()[1][0], tuple), (home.picture(), tuple), (home.come(letter("yielded", 0)), list)):
            self.assertIs(type(told), kind)
        picture = home.picture()
        self.assertEqual([type(part) for part in picture], [tuple, type(None), tuple, tuple, tuple])
        self.assertEqual([type(part) for part in picture[4]], [tuple, tuple])
        self.assertEqual(hash(picture), hash(home.twin().picture()))

    def test_asking_changes_nothing(self):
        home = self.busy()
        self.assertEqual(told_of(home), told_of(home))

    def test_lists_told_are_the_askers_own(self):
        home = self.busy()
        before = told_of(home)
        for change in (list.clear, list.reverse, lambda told: told.append(9), lambda told: told.pop()):
            for told in (home.book()[1], home.row(), home.work()[1]):
                change(told)
            self.assertEqual(told_of(home), before)

    def test_lists_told_earlier_stay(self):
        home = self.busy()
        readers, row, awaited = home.book()[1], home.row(), home.work()[1]
        sent = home.come(letter("yielded", 0))
        home.come(letter("yielded", 1))
        home.come(letter("yielded", 3))
        home.come(letter("took", 2))
        self.assertEqual((readers, row), ([0, 1, 3], [letter("back", 1), letter("read", 4)]))
        self.assertEqual(awaited, [("yielded", 0), ("yielded", 1), ("yielded", 3)])
        self.assertEqual(sent, [])

    def test_letters_told_are_the_askers_own(self):
        home = fresh()
        home.come(letter("read", 0)).clear()
        home.come(letter("took", 0)).append(letter("gone", 0))
        self.assertEqual(home.come(letter("read", 1)), [letter("share", 1, (1, 2))])


class TestTwins(HomeTest):
    def test_a_twin_tells_the_same_and_goes_on_the_same(self):
        home = written_by(3)
        for come in (
                letter("read", 1), letter("back", 3, (8, 9)), letter("write", 0), letter("lowered", 3, (8, 9)),
                letter("took", 1), letter("yielded", 1), letter("took", 0)):
            twin = home.twin()
            self.assertIsInstance(twin, Home)
            self.assertIsNot(twin, home)
            self.assertEqual(told_of(twin), told_of(home))
            self.assertEqual(twin.come(come), home.come(come))
            self.assertEqual(told_of(twin), told_of(home))

    def test_what_is_done_to_one_does_not_change_the_other(self):
        home = written_by(3)
        home.come(letter("write", 1))
        home.come(letter("read", 2))
        twin, before = home.twin(), told_of(home)
        for come in (letter("yielded", 3, (8, 9)), letter("read", 4), letter("took", 1)):
            twin.come(come)
        self.assertEqual(told_of(home), before)
        behind = told_of(twin)
        home.come(letter("back", 3, (6, 6)))
        home.come(letter("yielded", 3, (5, 5)))
        self.assertEqual(told_of(twin), behind)

    def test_a_twin_has_the_same_line_and_nears(self):
        twin = Home(7, 3, (0,)).twin()
        self.assert_unawaited(twin, ("read", 7, 3, None))
        self.assert_unawaited(twin, ("read", 4, 2, None))
        self.assertEqual(twin.come(("read", 7, 2, None)), [("share", 7, 2, (0,))])


class Model:
    """A home once more, straight from the points' words, over sets and pairs."""

    def __init__(self, line, nears, words):
        self.line, self.nears, self.words = line, nears, words
        self.writer, self.readers = None, set()
        self.row, self.work, self.pairs, self.granted = [], None, set(), False
        # Whether something was done of which nothing is promised.
        self.open = False

    def picture(self):
        work = None if self.work is None else (self.work, tuple(sorted(self.pairs, key=lambda pair: pair[1])))
        return (self.words, self.writer, tuple(sorted(self.readers)), tuple(self.row), work)

    def twin(self):
        other = Model(self.line, self.nears, self.words)
        other.writer, other.readers, other.row = self.writer, set(self.readers), list(self.row)
        other.work, other.pairs, other.granted = self.work, set(self.pairs), self.granted
        return other

    def refuses(self, come):
        word, line, near, words = come
        if line != self.line or near not in range(self.nears) or word not in ELEVEN[:6]:
            return True
        if word in ASKING:
            asked = [other[2] for other in self.row]
            return near in asked or (self.work is not None and self.work[2] == near and not self.granted)
        return (word, near) not in self.pairs

    def send(self, word, near, words=None):
        self.sent.append((word, self.line, near, words))

    def come(self, come):
        self.sent = []
        word, line, near, words = come
        if word in ASKING:
            self.row.append(come)
        elif word == "lowered":
            self.open = self.open or words is None
            self.words, self.writer = words, None
            self.readers.add(near)
            self.grant()
        elif word == "yielded":
            self.yielded(near, words)
        else:
            self.work, self.pairs, self.granted = None, set(), False
        while self.work is None and self.row:
            self.turn(self.row.pop(0))
        return self.sent

    def yielded(self, near, words):
        if near == self.writer:
            self.open = self.open or words is None
            self.words, self.writer = words, None
        self.readers.discard(near)
        self.pairs.remove(("yielded", near))
        if not self.pairs:
            self.grant()

    def turn(self, come):
        word, line, near, words = come
        if word == "back":
            self.open = self.open or (near == self.writer and words is None)
            if near == self.writer:
                self.words, self.writer = words, None
            self.readers.discard(near)
            self.send("gone", near)
            return
        self.open = self.open or near == self.writer or (word == "read" and near in self.readers)
        self.work, self.granted = come, False
        called = {self.writer} if word == "read" else ({self.writer} | self.readers) - {near}
        called = sorted(called - {None})
        for other in called:
            self.send("lower" if word == "read" else "yield", other)
            self.pairs.add(("lowered" if word == "read" else "yielded", other))
        if not called:
            self.grant()

    def grant(self):
        word, line, near, words = self.work
        self.pairs, self.granted = {("took", near)}, True
        if word == "read":
            self.readers.add(near)
            self.send("share", near, self.words)
        else:
            self.writer, self.readers = near, set()
            self.send("own", near, self.words)


class TestWalks(HomeTest):
    """A home and the model behind the same letters, chosen ones, the same at each run."""

    def letters(self, chance, model):
        words = [None, (chance.randrange(9), chance.randrange(9))]
        letters = [
            (word, model.line, near, choice) for word in ELEVEN[:6] for near in range(model.nears) for choice in words]
        chance.shuffle(letters)
        # Answers come often enough to lead on.
        return letters if chance.random() < 0.6 else sorted(letters, key=lambda come: come[0] in ASKING)

    def step(self, chance, home, model):
        """Brings one letter of which something is promised; tells whether there was one."""
        for come in self.letters(chance, model):
            if model.refuses(come):
                if chance.random() < 0.1:
                    self.assert_unawaited(home, come)
                continue
            ahead = model.twin()
            ahead.come(come)
            if not ahead.open:
                self.assertEqual(home.come(come), model.come(come))
                return True
        return False

    def walk(self, chance, nears):
        home, model, steps = Home(9, nears, (1, 2)), Model(9, nears, (1, 2)), 0
        while steps < 120 and self.step(chance, home, model):
            steps += 1
            self.assertEqual(home.picture(), model.picture())
            self.assertEqual((home.far(), home.book()), (model.words, (model.writer, sorted(model.readers))))
            if chance.random() < 0.1:
                home = home.twin()
        return steps

    def test_walks(self):
        chance = random.Random(13)
        steps = sum(self.walk(chance, nears) for nears in (1, 2, 3, 4, 5, 7, 16, 64) * 4)
        self.assertGreater(steps, 1500)


if __name__ == "__main__":
    unittest.main()
