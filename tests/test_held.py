"""[8] The eight states of a line in a near."""

import unittest

from linewarden.errors import Unawaited
from linewarden.held import (
    Away, Held, LeavingEmpty, LeavingReader, LeavingWriter, Reader, WantsRead, WantsWrite, Writer)
from odd_things import Untouched, no_texts

LARGEST = 10 ** 60 - 1
ELEVEN = ("read", "write", "back", "lowered", "yielded", "took", "lower", "yield", "share", "own", "gone")
OWN, COME = (1, -LARGEST), (LARGEST, 0)
CLASSES = (Away, Reader, Writer, WantsRead, WantsWrite, LeavingWriter, LeavingReader, LeavingEmpty)

# Each state here by a name: how it is made, then its class, kind, what may be done, its words.
STATES = {
    "away": (lambda: Away(), Away, "away", "none", None),
    "reader": (lambda: Reader(OWN), Reader, "reader", "read", OWN),
    "writer": (lambda: Writer(OWN), Writer, "writer", "write", OWN),
    "wants read": (lambda: WantsRead(), WantsRead, "wants read", "none", None),
    "wants write": (lambda: WantsWrite(OWN), WantsWrite, "wants write", "read", OWN),
    "wants write, left out": (lambda: WantsWrite(), WantsWrite, "wants write", "none", None),
    "wants write, None": (lambda: WantsWrite(None), WantsWrite, "wants write", "none", None),
    "leaving writer": (lambda: LeavingWriter(OWN), LeavingWriter, "leaving writer", "none", OWN),
    "leaving reader": (lambda: LeavingReader(), LeavingReader, "leaving reader", "none", None),
    "leaving empty": (lambda: LeavingEmpty(), LeavingEmpty, "leaving empty", "none", None),
}

# (state, word): the next state's class and words, and the answer. Where words stand as COME, the letter's are meant.
STEPS = {
    ("reader", "yield"): (Away, None, ("yielded", None)),
    ("writer", "lower"): (Reader, OWN, ("lowered", OWN)),
    ("writer", "yield"): (Away, None, ("yielded", OWN)),
    ("wants read", "share"): (Reader, COME, ("took", None)),
    ("wants write", "own"): (Writer, COME, ("took", None)),
    ("wants write", "yield"): (WantsWrite, None, ("yielded", None)),
    ("wants write, left out", "own"): (Writer, COME, ("took", None)),
    ("wants write, None", "own"): (Writer, COME, ("took", None)),
    ("leaving writer", "lower"): (LeavingReader, None, ("lowered", OWN)),
    ("leaving writer", "yield"): (LeavingEmpty, None, ("yielded", OWN)),
    ("leaving writer", "gone"): (Away, None, None),
    ("leaving reader", "yield"): (LeavingEmpty, None, ("yielded", None)),
    ("leaving reader", "gone"): (Away, None, None),
    ("leaving empty", "gone"): (Away, None, None),
}


def told_of(state):
    return (state.kind(), state.may(), state.words())


def no_words():
    texts = ["", " ", "\n", "Yield", "YIELD", "yields", "yiel", " yield", "yield ", "yield\n", "away", "reader",
             "writer", "wants read", "leaving", "lowerr", "shares", "owns", "gon", "none"]
    return texts + no_texts()


class HeldTest(unittest.TestCase):
    def check_step(self, step, wanted):
        self.assertIs(type(step), tuple)
        self.assertEqual(len(step), 2)
        state, answer = step
        of_class, words, wanted_answer = wanted
        self.assertIs(type(state), of_class)
        self.assertEqual(state.words(), words)
        self.assertEqual(answer, wanted_answer)
        if answer is not None:
            self.assertIs(type(answer), tuple)

    def assert_unawaited(self, state, *given):
        before = told_of(state)
        with self.assertRaises(Unawaited) as caught:
            state.met(*given)
        self.assertIs(type(caught.exception), Unawaited)
        self.assertEqual(told_of(state), before)


class TestStates(HeldTest):
    def test_what_is_told_of_each(self):
        for name, (make, of_class, kind, may, words) in STATES.items():
            with self.subTest(name=name):
                self.assertEqual(told_of(make()), (kind, may, words))

    def test_words_of_other_lengths(self):
        for words in ((0,), (5, -LARGEST, LARGEST), tuple(range(16))):
            for of_class in (Reader, Writer, WantsWrite, LeavingWriter):
                self.assertEqual(of_class(words).words(), words)
                self.assertEqual(of_class(words=words).words(), words)
                self.assertIs(type(of_class(words).words()), tuple)

    def test_each_is_of_its_own_class_and_of_none_of_the_other_seven(self):
        for name, (make, of_class, kind, may, words) in STATES.items():
            state = make()
            self.assertIsInstance(state, Held)
            for other in CLASSES:
                with self.subTest(name=name, other=other.__name__):
                    self.assertEqual(isinstance(state, other), other is of_class)

    def test_none_of_the_eight_stands_under_another(self):
        self.assertEqual(len(set(CLASSES)), 8)
        for one in CLASSES:
            self.assertTrue(issubclass(one, Held))
            self.assertIsNot(one, Held)
            for other in CLASSES:
                self.assertEqual(issubclass(one, other), one is other)

    def test_two_states_have_nothing_in_common(self):
        one, other = Writer((1,)), Writer((2,))
        one.met("yield")
        self.assertEqual((one.words(), other.words()), ((1,), (2,)))


class TestSteps(HeldTest):
    def test_each_state_and_each_of_the_eleven_words(self):
        for name in STATES:
            for word in ELEVEN:
                with self.subTest(name=name, word=word):
                    self.check_word(STATES[name][0](), STEPS.get((name, word)), word)

    def check_word(self, state, wanted, word):
        before = told_of(state)
        if wanted is None:
            self.assert_unawaited(state, word)
            self.assert_unawaited(state, word, COME)
            self.assert_unawaited(state, word, None)
            return
        for again in range(2):
            self.check_step(state.met(word, COME), wanted)
            self.check_step(state.met(word=word, words=COME), wanted)
            self.assertEqual(told_of(state), before)
        # Of share and own without words nothing is promised.
        if wanted[1] != COME:
            self.check_step(state.met(word), wanted)
            self.check_step(state.met(word, None), wanted)
            self.assertEqual(told_of(state), before)

    def test_the_words_of_a_letter_that_leads_to_no_state_with_words_are_not_looked_at(self):
        for (name, word), wanted in STEPS.items():
            if wanted[1] != COME:
                with self.subTest(name=name, word=word):
                    self.check_step(STATES[name][0]().met(word, Untouched()), wanted)

    def test_every_other_word_of_whatever_kind_is_refused(self):
        for name, (make, of_class, kind, may, words) in STATES.items():
            for place, word in enumerate(no_words()):
                with self.subTest(name=name, place=place):
                    self.assert_unawaited(make(), word)
                    self.assert_unawaited(make(), word, COME)
            for other in STATES:
                self.assert_unawaited(make(), STATES[other][0]())

    def test_what_is_told_of_the_next_state(self):
        self.assertEqual(told_of(WantsRead().met("share", COME)[0]), ("reader", "read", COME))
        self.assertEqual(told_of(WantsWrite(OWN).met("own", COME)[0]), ("writer", "write", COME))
        self.assertEqual(told_of(WantsWrite(OWN).met("yield")[0]), ("wants write", "none", None))
        self.assertEqual(told_of(Writer(OWN).met("lower")[0]), ("reader", "read", OWN))
        self.assertEqual(told_of(LeavingWriter(OWN).met("lower")[0]), ("leaving reader", "none", None))
        self.assertEqual(told_of(LeavingWriter(OWN).met("yield")[0]), ("leaving empty", "none", None))
        self.assertEqual(told_of(LeavingEmpty().met("gone")[0]), ("away", "none", None))


if __name__ == "__main__":
    unittest.main()
