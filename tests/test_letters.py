"""[5] Letters, their words and their roads."""

import unittest

from linewarden.errors import NoWord
from linewarden.letters import make_letter, road_of, to_home
from odd_things import Untouched, no_texts

HOME = ("read", "write", "back", "lowered", "yielded", "took")
NEAR = ("lower", "yield", "share", "own", "gone")
ALL = HOME + NEAR


def near_texts():
    for word in ALL:
        yield from (word[:-1], word[1:], word + "s", word + " ", " " + word, word + "\n", word.upper())
        yield from (word.capitalize(), word * 2, word[::-1])


def no_words():
    texts = [text for text in near_texts() if text not in ALL]
    return ["", " ", "\n", "~", "wants read", "leaving", "readwrite"] + texts + no_texts() + [list(ALL), ALL]


class TestWordsOfLetters(unittest.TestCase):
    def test_to_home(self):
        for word in HOME:
            self.assertIs(to_home(word), True, word)
        for word in NEAR:
            self.assertIs(to_home(word), False, word)

    def test_a_word_put_together_is_one_of_the_eleven_too(self):
        for word in ALL:
            self.assertIs(to_home("".join(list(word))), word in HOME)

    def test_what_is_no_word_is_refused(self):
        for place, thing in enumerate(no_words()):
            with self.subTest(place=place):
                with self.assertRaises(NoWord):
                    to_home(thing)
                with self.assertRaises(NoWord):
                    make_letter(thing, 0, 0)
                with self.assertRaises(NoWord):
                    make_letter(thing, 3, 1, (0, 5))

    def test_what_is_refused_changes_nothing(self):
        thing = ["read", {"write": ["back"]}]
        for ask in (to_home, lambda word: make_letter(word, 0, 0, None)):
            with self.assertRaises(NoWord):
                ask(thing)
        self.assertEqual(thing, ["read", {"write": ["back"]}])
        self.assertEqual(make_letter("read", 0, 0), ("read", 0, 0, None))
        self.assertIs(to_home("gone"), False)


class TestLetters(unittest.TestCase):
    def test_a_letter_is_the_tuple_of_its_parts(self):
        for word in ALL:
            for words in (None, (0,), (1, -2, 10 ** 60 - 1)):
                with self.subTest(word=word, words=words):
                    letter = make_letter(word, 12, 3, words)
                    self.assertIs(type(letter), tuple)
                    self.assertEqual(letter, (word, 12, 3, words))

    def test_the_last_part_is_none_where_it_is_left_out(self):
        for word in ALL:
            letter = make_letter(word, 10 ** 59, 63)
            self.assertEqual(letter, (word, 10 ** 59, 63, None))
            self.assertIs(type(letter), tuple)

    def test_nothing_but_the_first_part_is_looked_at(self):
        for word in ALL:
            line, near, words = Untouched(), Untouched(), Untouched()
            letter = make_letter(word, line, near, words)
            self.assertEqual(len(letter), 4)
            self.assertIs(letter[1], line)
            self.assertIs(letter[2], near)
            self.assertIs(letter[3], words)

    def test_arguments_have_their_names(self):
        self.assertEqual(make_letter(word="own", line=1, near=2, words=(3,)), ("own", 1, 2, (3,)))
        self.assertIs(to_home(word="took"), True)
        self.assertEqual(road_of(letter=("took", 1, 2, None)), (1, 2, True))


class TestRoads(unittest.TestCase):
    def test_the_road_is_line_near_and_home(self):
        for word in ALL:
            for line, near in ((0, 0), (1, 0), (0, 1), (63, 15), (10 ** 60 - 1, 63)):
                for words in (None, (4, 5)):
                    with self.subTest(word=word, line=line, near=near, words=words):
                        road = road_of(make_letter(word, line, near, words))
                        self.assertIs(type(road), tuple)
                        self.assertEqual(road, (line, near, word in HOME))
                        self.assertIs(type(road[2]), bool)

    def test_letters_of_one_line_near_and_side_have_one_road(self):
        self.assertEqual(road_of(make_letter("read", 2, 1)), road_of(make_letter("took", 2, 1, (9,))))
        self.assertNotEqual(road_of(make_letter("read", 2, 1)), road_of(make_letter("share", 2, 1)))
        self.assertNotEqual(road_of(make_letter("read", 2, 1)), road_of(make_letter("read", 1, 2)))


if __name__ == "__main__":
    unittest.main()
