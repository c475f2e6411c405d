"""[23] to [28] Pictures that are looked at: those of houses, and made up ones that no house can come to."""

import random
import unittest

from linewarden.errors import NoPlace
from linewarden.house import House
from linewarden.looks import clash_lines, is_calm, last_words, odd_lines, told_number

ASKING = ("read", "write", "back")
TO_HOME = ASKING + ("lowered", "yielded", "took")
TO_NEAR = ("lower", "yield", "share", "own", "gone")
LARGEST = 10 ** 60 - 1
COUNTS = (1, 2, 3, 4, 16)
BLANK = (0, 0)
# A line's kinds and words in a near, those that hold it ahead.
HOLDING = (("reader", BLANK), ("writer", BLANK), ("wants write", BLANK))
OTHERS = (("wants write", None), ("wants read", None), ("leaving writer", BLANK), ("leaving reader", None),
          ("leaving empty", None))


def near(states=(), row=()):
    """The picture of a near of its states (line, kind, words) and its row."""
    used = tuple(line for line, kind, words in states if (kind, words is None) in (
        ("reader", False), ("writer", False), ("wants write", False)))
    return (tuple(states), used, tuple(row))


def home(words=BLANK, writer=None, readers=(), row=(), work=None):
    return (words, writer, tuple(readers), tuple(row), work)


def house(nears, homes, letters=()):
    return (tuple(nears), tuple(homes), tuple(letters))


def one_line(states, book=None, letters=()):
    """A house with one line, which is in each near as told: (kind, words), or None where it is away."""
    nears = [near() if state is None else near([(0,) + state]) for state in states]
    return house(nears, [home() if book is None else book], letters)


def at_work(word, awaited):
    """The work of a home: a letter of this word at work, and the pairs (word, near) that are awaited."""
    return ((word, 0, 0, None), tuple(awaited))


class TestClashes(unittest.TestCase):
    def test_a_writer_and_each_kind_beside_it(self):
        for beside in HOLDING:
            self.assertEqual(clash_lines(one_line([("writer", BLANK), beside])), [0])
            self.assertEqual(clash_lines(one_line([beside, ("writer", BLANK)])), [0])
            self.assertEqual(clash_lines(one_line([None, beside, None, ("writer", (4, 5)), None])), [0])
        for beside in OTHERS + (None,):
            self.assertEqual(clash_lines(one_line([("writer", BLANK), beside])), [])
            self.assertEqual(clash_lines(one_line([beside, ("writer", BLANK)])), [])

    def test_a_writer_and_several_beside_it(self):
        for states in ([OTHERS[0], ("writer", BLANK), ("reader", BLANK)], [("writer", BLANK)] * 3):
            self.assertEqual(clash_lines(one_line(states)), [0])
        self.assertEqual(clash_lines(one_line([("writer", BLANK)] + list(OTHERS))), [])

    def test_without_a_writer(self):
        for kind in ("reader", "wants write"):
            self.assertEqual(clash_lines(one_line([("reader", BLANK), (kind, (1, 2)), ("reader", (3, 4))])), [])
        self.assertEqual(clash_lines(one_line(list(OTHERS))), [])
        self.assertEqual(clash_lines(one_line([None, None])), [])

    def test_a_writer_alone(self):
        for count in COUNTS:
            self.assertEqual(clash_lines(one_line([("writer", BLANK)] + [None] * (count - 1))), [])

    def test_other_lines_of_the_same_nears(self):
        states = [[(0, "writer", BLANK), (1, "reader", BLANK)], [(1, "reader", BLANK), (2, "writer", BLANK)]]
        self.assertEqual(clash_lines(house([near(own) for own in states], [home()] * 3)), [])

    def test_lines_rise_as_numbers(self):
        clashing, lines = (1, 2, 9, 10, 11, 63), range(64)
        first = near([(line, "writer", BLANK) for line in lines])
        second = near([(line, "reader" if line in clashing else "leaving reader", BLANK if line in clashing else None)
                       for line in lines])
        for nears in ([first, second], [second, first], [second, near(), first]):
            self.assertEqual(clash_lines(house(nears, [home()] * 64)), list(clashing))

    def test_books_letters_and_rows_do_not_matter(self):
        states = [("writer", BLANK), ("reader", BLANK)]
        for book in (home(writer=0), home(readers=(0, 1)), home(work=at_work("write", [("took", 1)]))):
            self.assertEqual(clash_lines(one_line(states, book, [("yield", 0, 1, None)])), [0])
            self.assertEqual(clash_lines(one_line(states[1:] * 2, book, [("own", 0, 1, BLANK)])), [])


class TestCalm(unittest.TestCase):
    def assert_calm(self, calm, picture):
        self.assertIs(is_calm(picture), calm)

    def test_a_new_house(self):
        for given in ((1, 1, 1, 1), (3, 2, 2, 1), (16, 64, 16, 64)):
            self.assert_calm(True, House(*given).picture())

    def test_each_letter_under_way(self):
        for word in TO_HOME + TO_NEAR:
            for line, place in ((0, 0), (1, 0), (0, 1)):
                self.assert_calm(False, house([near()] * 2, [home()] * 2, [(word, line, place, None)]))

    def test_a_deed_in_a_row(self):
        for deed in (("read", 0), ("write", 1, 0), ("add", 0, 1), ("swap", 3, 0, 0)):
            for place in range(3):
                nears = [near()] * place + [near((), [deed])] + [near()] * (2 - place)
                self.assert_calm(False, house(nears, [home()] * 2))

    def test_a_letter_in_a_homes_row(self):
        for word in ASKING:
            for place in range(3):
                homes = [home()] * place + [home(row=[(word, place, 0, None)])] + [home()] * (2 - place)
                self.assert_calm(False, house([near()], homes))

    def test_a_letter_at_work(self):
        for work in (
                at_work("read", [("took", 0)]), at_work("read", [("lowered", 0)]), at_work("write", [("yielded", 0)]),
                at_work("write", [])):
            for place in range(3):
                homes = [home()] * place + [home(work=work)] + [home()] * (2 - place)
                self.assert_calm(False, house([near()], homes))

    def test_lines_and_books_do_not_matter(self):
        for state in HOLDING + OTHERS:
            for book in (home((5, 6)), home(writer=0), home(readers=(0, 1))):
                self.assert_calm(True, one_line([None, state, ("writer", BLANK)], book))

    def test_through_a_read(self):
        asked = House(2, 1, 1, 1)
        for number in (1, 2, 3):
            if number == 1:
                asked.ask(1, ("read", 0))
            self.assert_calm(False, asked.picture())
            asked.come(number)
        self.assert_calm(True, asked.picture())


class TestNumber(unittest.TestCase):
    def number(self, count, of_first=None, of_home=None, letters=()):
        """The told number of a house with so many nears, of which only the last one is as told."""
        first = near() if of_first is None else of_first
        nears = [near()] * (count - 1) + [first]
        return told_number(house(nears, [home(), home() if of_home is None else of_home, home()], letters))

    def test_a_new_house(self):
        for given in ((1, 1, 1, 1), (3, 2, 2, 1), (16, 64, 16, 64)):
            self.assertEqual(told_number(House(*given).picture()), 0)

    def test_deeds_that_are_not_sent_for(self):
        for count in COUNTS:
            for length in (1, 2, 3, 10):
                for deed in (("read", 2), ("write", 2, 1), ("add", 3, 1), ("swap", 3, 0, 0)):
                    told = self.number(count, near((), [deed] * length))
                    self.assertEqual(told, length * (2 * count + 3) - 2)

    def test_a_first_deed_that_is_sent_for(self):
        for count in COUNTS:
            for length in (1, 2, 3, 10):
                for kind, words in (("wants read", None), ("wants write", None), ("wants write", BLANK)):
                    told = self.number(count, near([(1, kind, words)], [("read", 3)] * length))
                    self.assertEqual(told, (length - 1) * (2 * count + 3))

    def test_other_kinds_of_the_first_deeds_line(self):
        for count in COUNTS:
            for kind, words in (HOLDING[0], HOLDING[1]) + OTHERS[2:]:
                told = self.number(count, near([(1, kind, words)], [("read", 3), ("read", 2)]))
                self.assertEqual(told, 2 * (2 * count + 3) - 2)

    def test_another_line_that_is_wanted(self):
        for wanted in (0, 2):
            first = near(sorted([(1, "reader", BLANK), (wanted, "wants read", None)]), [("add", 2, 1)])
            self.assertEqual(self.number(3, first), 7)

    def test_a_later_deed_whose_line_is_wanted(self):
        for kind in ("wants read", "wants write"):
            told = self.number(3, near([(1, kind, None)], [("read", 0), ("read", 2), ("read", 3)]))
            self.assertEqual(told, 3 * 9 - 2)

    def test_a_line_that_another_near_wants(self):
        nears = [near([(0, "wants read", None)]), near((), [("read", 0)])]
        self.assertEqual(told_number(house(nears, [home()])), 5)
        self.assertEqual(told_number(house(nears[::-1], [home()])), 5)

    def test_the_line_of_a_deed_by_width(self):
        for width in (1, 2, 3, 16):
            homes = [home((0,) * width)] * 3
            for address in range(3 * width):
                for line in range(3):
                    first = near([(line, "wants write", None)], [("read", address)])
                    self.assertEqual(told_number(house([first], homes)), 0 if address // width == line else 3)

    def test_without_deeds_lines_do_not_matter(self):
        for state in HOLDING + OTHERS:
            self.assertEqual(told_number(one_line([state, None, state], home(writer=1, readers=(0, 2)))), 0)

    def test_each_letter_under_way(self):
        for count in COUNTS:
            worth = dict.fromkeys(("read", "write"), 2 * count + 1)
            worth.update(dict.fromkeys(("lower", "yield", "share", "own", "back"), 2))
            worth.update(dict.fromkeys(("lowered", "yielded", "took", "gone"), 1))
            self.assertEqual(sorted(worth), sorted(TO_HOME + TO_NEAR))
            for word, number in worth.items():
                for words in (None, BLANK):
                    self.assertEqual(self.number(count, letters=[(word, 1, 0, words)]), number)
                    self.assertEqual(self.number(count, letters=[(word, 1, 0, words)] * 3), 3 * number)
            letters = [(word, 2, 0, None) for word in worth]
            self.assertEqual(self.number(count, letters=letters), 2 * (2 * count + 1) + 10 + 4)

    def test_letters_in_a_homes_row(self):
        for count in COUNTS:
            for words, number in (
                    (["read"], 2 * count), (["write"], 2 * count), (["back"], 1), (["back", "back"], 2),
                    (["read", "write", "read"], 6 * count), (["write", "back", "read"], 4 * count + 1)):
                row = [(word, 1, place, None) for place, word in enumerate(words)]
                self.assertEqual(self.number(count, of_home=home(row=row)), number)

    def test_other_letters_in_a_homes_row_add_nothing(self):
        for word in ("lowered", "yielded", "took") + TO_NEAR:
            self.assertEqual(self.number(3, of_home=home(row=[(word, 1, 0, None)])), 0)

    def test_letters_at_work(self):
        for count in COUNTS:
            for word, awaited, number in (
                    ("read", [("lowered", 0)], 2), ("write", [("yielded", 0)], 2), ("read", [("took", 0)], 0),
                    ("write", [("took", 0)], 0), ("write", [("yielded", 0), ("yielded", 1), ("yielded", 2)], 2)):
                self.assertEqual(self.number(count, of_home=home(work=at_work(word, awaited))), number)

    def test_each_home_with_a_letter_at_work(self):
        for several in (1, 2, 3):
            homes = [home(work=at_work("write", [("yielded", 0)]))] * several + [home()]
            self.assertEqual(told_number(house([near()] * 2, homes)), 2 * several)

    def test_each_near_with_a_row(self):
        for count in COUNTS:
            nears = [near((), [("read", 0)])] * count
            self.assertEqual(told_number(house(nears, [home()])), count * (2 * count + 1))
            nears = [near([(0, "wants read", None)], [("read", 0), ("read", 0)])] * count
            self.assertEqual(told_number(house(nears, [home()])), count * (2 * count + 3))

    def test_the_sum(self):
        for count in COUNTS:
            first = near([(0, "leaving writer", BLANK)], [("read", 2)] * 2)
            last = home(row=[("read", 1, 0, None), ("back", 1, 1, None)], work=at_work("read", [("lowered", 0)]))
            letters = [("lower", 1, 0, None), ("write", 2, 0, None), ("gone", 0, 0, None)]
            self.assertEqual(self.number(count, first, last, letters), sum((
                2 * (2 * count + 3) - 2, 2 * count + 1, 2, 2, 2 * count + 1, 1)))

    def test_through_a_house(self):
        asked, numbers = House(2, 1, 1, 1), []
        for near_number, deed in ((0, ("add", 0, 1)), (0, ("read", 0)), (1, ("add", 0, 1)), (1, ("read", 0))):
            asked.ask(near_number, deed)
            numbers.append(told_number(asked.picture()))
        while asked.letters():
            asked.come(asked.may_come()[0])
            numbers.append(told_number(asked.picture()))
        self.assertEqual(numbers, [5, 12, 17, 24, 21, 20, 12, 11, 10, 9, 1, 0])


class TestOdd(unittest.TestCase):
    WORDS = (4, 5)

    def assert_odd(self, odd, states, *book):
        """A line is in three nears as told, and the home has these words and this book."""
        for letters in ((), [("own", 0, 0, (8, 9)), ("back", 0, 1, None)]):
            for more in ((), (("read", 0, 2, None),)):
                picture = one_line(states, (self.WORDS,) + book + (more, None), letters)
                self.assertEqual(odd_lines(picture), [0] if odd else [])

    def test_nobody_holds_it(self):
        for states in ([None] * 3, list(OTHERS[:3]), list(OTHERS[2:])):
            self.assert_odd(False, states, None, ())
            self.assert_odd(True, states, 0, ())
            self.assert_odd(True, states, 2, ())
            self.assert_odd(True, states, None, (0,))
            self.assert_odd(True, states, None, (1, 2))

    def test_a_writer(self):
        for place in range(3):
            for words in (self.WORDS, (0, 0)):
                states = [None] * place + [("writer", words)] + [None] * (2 - place)
                self.assert_odd(False, states, place, ())
                for writer in (None, (place + 1) % 3, (place + 2) % 3):
                    self.assert_odd(True, states, writer, ())
                    self.assert_odd(True, states, writer, (place,))
                self.assert_odd(True, states, place, (place,))
                self.assert_odd(True, states, place, ((place + 1) % 3,))

    def test_several_writers(self):
        one, other = ("writer", self.WORDS), ("writer", (0, 0))
        for states in ([one, one, None], [one, None, other], [None, other, one], [one, other, one]):
            for writer in (None, 0, 1, 2):
                for readers in ((), (0,), (1, 2), (0, 1, 2)):
                    self.assert_odd(True, states, writer, readers)

    def test_readers(self):
        for kind in ("reader", "wants write"):
            states = [(kind, self.WORDS), None, (kind, self.WORDS)]
            self.assert_odd(False, states, None, (0, 2))
            for readers in ((), (0,), (2,), (1,), (0, 1), (1, 2), (0, 1, 2)):
                self.assert_odd(True, states, None, readers)
            for writer in (0, 1, 2):
                self.assert_odd(True, states, writer, (0, 2))
                self.assert_odd(True, states, writer, ())

    def test_words_that_are_not_the_homes(self):
        for kind in ("reader", "wants write"):
            for wrong in ((4, 4), (5, 5), (5, 4), (0, 0), (-4, -5), (4, LARGEST)):
                self.assert_odd(True, [(kind, wrong), None, None], None, (0,))
                self.assert_odd(True, [None, (kind, self.WORDS), (kind, wrong)], None, (1, 2))
                self.assert_odd(True, [(kind, wrong), ("reader", self.WORDS), None], None, (0, 1))

    def test_a_writer_and_readers(self):
        states = [("reader", self.WORDS), ("writer", (7, 8)), ("wants write", self.WORDS)]
        self.assert_odd(False, states, 1, (0, 2))
        for writer, readers in ((1, (0,)), (1, (2,)), (1, ()), (1, (0, 1, 2)), (None, (0, 2)), (0, (0, 2)), (0, (1, 2))):
            self.assert_odd(True, states, writer, readers)
        self.assert_odd(True, [("reader", (7, 8))] + states[1:], 1, (0, 2))

    def test_kinds_that_do_not_hold_it(self):
        for kind, words in OTHERS:
            self.assert_odd(False, [(kind, words), ("reader", self.WORDS), None], None, (1,))
            self.assert_odd(True, [(kind, words), ("reader", self.WORDS), None], None, (0, 1))
            self.assert_odd(True, [(kind, words), None, None], 0, ())
            self.assert_odd(True, [(kind, words), None, None], None, (0,))

    def test_lines_rise_as_numbers(self):
        odd = (0, 2, 9, 10, 31, 63)
        holder = near([(line, "reader", (line,)) for line in range(64)])
        homes = [home((line,), None, () if line in odd else (0,)) for line in range(64)]
        self.assertEqual(odd_lines(house([holder], homes)), list(odd))
        homes = [home((-1 if line in odd else line,), None, (0,)) for line in range(64)]
        self.assertEqual(odd_lines(house([holder], homes)), list(odd))

    def test_of_houses(self):
        asked = House(2, 2, 1, 1)
        self.assertEqual(odd_lines(asked.picture()), [])
        asked.ask(1, ("add", 1, 5))
        asked.come(1)
        self.assertEqual(odd_lines(asked.picture()), [1])
        asked.come(2)
        self.assertEqual(odd_lines(asked.picture()), [])
        asked.come(3)
        asked.ask(0, ("read", 1))
        asked.ask(1, ("read", 0))
        self.assertEqual(odd_lines(asked.picture()), [1])


class TestLast(unittest.TestCase):
    WRITER, LETTER, LEAVING, HOME = (1, 1), (2, 2), (3, 3), (4, 4)

    def last(self, states, writer=None, letters=()):
        return last_words(one_line(states, home(self.HOME, writer), letters), 0)

    def test_each_case_ahead_of_the_ones_behind_it(self):
        leaving, letters = [("leaving writer", self.LEAVING)], [("lowered", 0, 0, self.LETTER)]
        for sent in (letters, [("yielded", 0, 0, self.LETTER)]):
            self.assertEqual(self.last(leaving + [("writer", self.WRITER)], 0, sent), self.WRITER)
            self.assertEqual(self.last(leaving + [None], 0, sent), self.LETTER)
            self.assertEqual(self.last([None, None], None, sent), self.LETTER)
        self.assertEqual(self.last(leaving + [("writer", self.WRITER)], 0), self.WRITER)
        self.assertEqual(self.last([None, ("writer", self.WRITER)], None), self.WRITER)
        self.assertEqual(self.last([None, ("writer", self.WRITER)], None, letters), self.WRITER)
        self.assertEqual(self.last(leaving + [None], 0), self.LEAVING)
        self.assertEqual(self.last([None, None]), self.HOME)

    def test_several_writers(self):
        for first, second in ((0, 1), (0, 2), (1, 2)):
            states = [None] * 3
            states[first], states[second] = ("writer", self.WRITER), ("writer", (7, 7))
            for writer in (None, first, second):
                self.assertEqual(self.last(states, writer), self.WRITER)
        self.assertEqual(self.last([("writer", self.WRITER), ("writer", (7, 7)), ("writer", (0, 0))], 2), self.WRITER)

    def test_a_letter_with_none_bears_no_words(self):
        for word in ("lowered", "yielded"):
            bare, full = (word, 0, 1, None), ("yielded", 0, 1, self.LETTER)
            self.assertEqual(self.last([None, None], None, [bare]), self.HOME)
            self.assertEqual(self.last([("leaving writer", self.LEAVING), None], 0, [bare]), self.LEAVING)
            self.assertEqual(self.last([None, None], None, [bare, full]), self.LETTER)
            self.assertEqual(self.last([None, None], None, [full, bare]), self.LETTER)

    def test_the_first_of_several_letters_as_they_stand_there(self):
        one, other, third = ("yielded", 0, 1, (5, 5)), ("lowered", 0, 0, (6, 6)), ("yielded", 0, 0, (0, 7))
        for letters in ([one, other], [other, one], [third, one, other], [other, third], [third, other]):
            self.assertEqual(self.last([None, None], 0, letters), letters[0][3])
            self.assertEqual(self.last([None, None], 0, [("yielded", 0, 0, None)] + letters), letters[0][3])

    def test_other_letters_do_not_count(self):
        for word in ("share", "own", "back", "read", "write", "took", "lower", "yield", "gone"):
            self.assertEqual(self.last([None, None], 0, [(word, 0, 0, self.LETTER)]), self.HOME)
            self.assertEqual(self.last([None, None], 0, [
                (word, 0, 0, (9, 9)), ("lowered", 0, 1, self.LETTER)]), self.LETTER)

    def test_letters_of_other_lines_do_not_count(self):
        homes = [home((4, line)) for line in range(3)]
        letters = [("lowered", 0, 0, (2, 0)), ("yielded", 2, 0, (2, 2))]
        picture = house([near(), near()], homes, letters)
        self.assertEqual([last_words(picture, line) for line in range(3)], [(2, 0), (4, 1), (2, 2)])

    def test_a_leaving_writer_counts_where_the_book_has_it_as_writer(self):
        states = [("leaving writer", (3, 0)), ("leaving writer", (3, 1)), None]
        for writer, words in ((0, (3, 0)), (1, (3, 1)), (2, self.HOME), (None, self.HOME)):
            self.assertEqual(self.last(states, writer), words)
        picture = one_line(states, home(self.HOME, None, (0, 1)))
        self.assertEqual(last_words(picture, 0), self.HOME)

    def test_other_kinds_do_not_count(self):
        for kind, words in HOLDING + OTHERS:
            if kind not in ("writer", "leaving writer"):
                for writer in (None, 0, 1):
                    self.assertEqual(self.last([(kind, words), None], writer), self.HOME)

    def test_a_leaving_writer_of_another_line(self):
        picture = house([near([(1, "leaving writer", (3, 3))])], [home((4, 4), 0), home((5, 5), 0)])
        self.assertEqual(last_words(picture, 0), (4, 4))
        self.assertEqual(last_words(picture, 1), (3, 3))

    def test_each_line_of_a_large_house(self):
        homes = [home((line, LARGEST)) for line in range(64)]
        picture = house([near([(9, "writer", (1, 1))]), near([(10, "writer", (2, 2))])], homes)
        expected = {9: (1, 1), 10: (2, 2)}
        for line in range(64):
            self.assertEqual(last_words(picture, line), expected.get(line, (line, LARGEST)))

    def test_a_line_that_is_not_there(self):
        """[21]"""
        for lines in (1, 2, 64):
            picture = House(2, lines, 1, 1).picture()
            for line in (lines, lines + 1, -1, -lines, LARGEST, -LARGEST):
                with self.assertRaises(NoPlace):
                    last_words(picture, line)

    def test_through_a_house(self):
        asked = House(2, 2, 2, 1)
        asked.ask(0, ("write", 1, 5))
        self.assertEqual(last_words(asked.picture(), 0), (0, 0))
        asked.come(1)
        asked.come(2)
        for number in (3, 4, 5, 6, 7):
            if number == 4:
                asked.ask(1, ("read", 1))
                asked.ask(0, ("read", 2))
            self.assertEqual(last_words(asked.picture(), 0), (0, 5))
            asked.come(asked.may_come()[0])
        self.assertEqual(last_words(asked.picture(), 1), (0, 0))


class TestAll(unittest.TestCase):
    def test_kinds(self):
        picture = House(2, 2, 1, 1).picture()
        self.assertEqual([type(clash_lines(picture)), type(odd_lines(picture))], [list, list])
        self.assertEqual([type(told_number(picture)), type(is_calm(picture))], [int, bool])
        self.assertIs(type(last_words(picture, 1)), tuple)

    def test_arguments_have_their_names(self):
        picture = House(2, 2, 1, 1).picture()
        self.assertEqual((clash_lines(picture=picture), odd_lines(picture=picture)), ([], []))
        self.assertEqual((told_number(picture=picture), is_calm(picture=picture)), (0, True))
        self.assertEqual(last_words(picture=picture, line=1), (0,))

    def test_lists_told_are_the_askers_own(self):
        picture = one_line([("writer", BLANK), ("reader", BLANK)])
        for look in (clash_lines, odd_lines):
            told = look(picture)
            told.append(5)
            self.assertEqual(look(picture), [0])
            self.assertEqual(told, [0, 5])

    def test_numbers_of_a_hundred_figures(self):
        words = (10 ** 99, -10 ** 99)
        picture = one_line([("reader", words), None], home(words, None, (0,)), [("yielded", 0, 1, words)])
        self.assertEqual((odd_lines(picture), last_words(picture, 0)), ([], words))
        picture = one_line([("reader", words), None], home((10 ** 99, 1 - 10 ** 99), None, (0,)))
        self.assertEqual(odd_lines(picture), [0])


# All five looks once more, written another way.
def states_of(picture, line):
    """(near, kind, words) of each near in which the line is not away."""
    return [(place, kind, words) for place, (rows, used, row) in enumerate(picture[0])
            for own, kind, words in rows if own == line]


def holders_of(picture, line):
    kinds = {"reader": True, "writer": True, "wants write": None}
    states = states_of(picture, line)
    return [state for state in states if state[1] in kinds and (kinds[state[1]] or state[2])]


def clashes_again(picture):
    found = []
    for line in range(len(picture[1])):
        holders = holders_of(picture, line)
        if any(one[1] == "writer" and one[0] != other[0] for one in holders for other in holders):
            found.append(line)
    return found


def calm_again(picture):
    return not (picture[2] or any(own[2] for own in picture[0]) or any(own[3] or own[4] for own in picture[1]))


def number_again(picture):
    nears, homes, letters = picture
    count, width = len(nears), len(homes[0][0])
    worth = {"read": 2 * count + 1, "write": 2 * count + 1, "lowered": 1, "yielded": 1, "took": 1, "gone": 1}
    number = sum(worth.get(letter[0], 2) for letter in letters)
    for rows, used, row in nears:
        kinds = {line: kind for line, kind, words in rows}
        sent_for = [kinds.get(deed[1] // width, "").startswith("wants") for deed in row[:1]]
        number += sum(0 if sent else 2 * count + 3 for sent in sent_for + [False] * (len(row) - 1))
        number -= 2 * sent_for.count(False)
    for words, writer, readers, row, work in homes:
        number += sum({"back": 1}.get(letter[0], 2 * count) for letter in row)
        number += 2 * (work is not None and {"lowered", "yielded"} & {word for word, place in work[1]} != set())
    return number


def odd_again(picture):
    found = []
    for line, (words, writer, readers, row, work) in enumerate(picture[1]):
        own = {(place, kind == "writer") for place, kind, has in holders_of(picture, line)}
        book = {(place, False) for place in readers} | ({(writer, True)} if writer is not None else set())
        other_words = [has for place, kind, has in holders_of(picture, line) if kind != "writer" and has != words]
        if own != book or other_words:
            found.append(line)
    return found


def last_again(picture, line):
    words = [words for place, kind, words in states_of(picture, line) if kind == "writer"]
    letters = [letter for letter in picture[2] if letter[0] in ("lowered", "yielded") and letter[1] == line]
    words += [letter[3] for letter in letters if letter[3] is not None]
    own = picture[1][line]
    words += [words for place, kind, words in states_of(picture, line)
              if own[1] is not None and place == own[1] and kind == "leaving writer"]
    return (words + [own[0]])[0]


class TestAgain(unittest.TestCase):
    """The looks beside those written again, of chosen pictures, the same at each run."""

    def assert_alike(self, picture):
        self.assertEqual(clash_lines(picture), clashes_again(picture))
        self.assertIs(is_calm(picture), calm_again(picture))
        self.assertEqual(told_number(picture), number_again(picture))
        self.assertEqual(odd_lines(picture), odd_again(picture))
        for line in range(len(picture[1])):
            self.assertEqual(last_words(picture, line), last_again(picture, line))

    def any_words(self, chance):
        return tuple(chance.choice((0, 0, 1)) for spot in range(2))

    def any_near(self, chance, lines):
        states = []
        for line in range(lines):
            kind, words = chance.choice(HOLDING + OTHERS + (None, None, None)) or (None, None)
            if kind is not None:
                states.append((line, kind, words and self.any_words(chance)))
        return near(states, [("read", chance.randrange(2 * lines)) for place in range(chance.choice((0, 0, 1, 2)))])

    def any_letter(self, chance, words, line, nears):
        return (chance.choice(words), line, chance.randrange(nears), chance.choice((None, self.any_words(chance))))

    def any_home(self, chance, line, nears):
        readers = [place for place in range(nears) if chance.random() < 0.3]
        row = [self.any_letter(chance, ASKING, line, nears) for place in range(chance.choice((0, 0, 0, 2)))]
        word, answer = chance.choice((("read", "lowered"), ("write", "yielded"), ("read", "took"), ("write", "took")))
        work = (self.any_letter(chance, [word], line, nears), ((answer, chance.randrange(nears)),))
        writer = chance.choice((None, None, chance.randrange(nears)))
        return home(self.any_words(chance), writer, readers, row, chance.choice((None, None, work)))

    def any_picture(self, chance):
        nears, lines = chance.randrange(1, 5), chance.randrange(1, 4)
        letters = [self.any_letter(chance, TO_HOME + TO_NEAR, chance.randrange(lines), nears)
                   for place in range(chance.choice((0, 0, 1, 2, 4)))]
        return house([self.any_near(chance, lines) for place in range(nears)],
                     [self.any_home(chance, line, nears) for line in range(lines)], letters)

    def test_made_up_pictures(self):
        chance = random.Random(23)
        pictures = [self.any_picture(chance) for place in range(2000)]
        for picture in pictures:
            self.assert_alike(picture)
        for look in (clash_lines, odd_lines, is_calm):
            told = [bool(look(picture)) for picture in pictures]
            self.assertGreater(min(told.count(True), told.count(False)), 10)

    def test_pictures_of_houses(self):
        chance = random.Random(24)
        for sizes in ((1, 2, 2, 1), (2, 2, 2, 1), (3, 2, 1, 2), (4, 3, 2, 1)):
            asked = House(*sizes)
            for place in range(150):
                if asked.may_come() and chance.random() < 0.8:
                    asked.come(chance.choice(asked.may_come()))
                else:
                    address = chance.randrange(sizes[1] * sizes[2])
                    asked.ask(chance.randrange(sizes[0]), chance.choice((("read", address), ("add", address, 1))))
                self.assert_alike(asked.picture())


if __name__ == "__main__":
    unittest.main()
