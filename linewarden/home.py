"""A home: a line's words in the far store, and the book of the nears that hold the line."""

from linewarden.book import nears_in, with_near, without_near
from linewarden.errors import Unawaited
from linewarden.letters import make_letter

# The words that ask something of a home and stand in its row; the other ones answer what the home asked.
ASKING = ("read", "write", "back")


class Home:
    def __init__(self, line, nears, words):
        self.line = line
        self.near_count = nears
        self.far_words = words
        self.writer = None
        self.readers = 0
        self.standing = []
        self.at_work = None
        # The answers that are awaited at one time all have the same word, so it is kept once for a set of nears.
        self.awaited_word = None
        self.awaited_nears = 0

    def come(self, letter):
        if not self.awaits(letter):
            raise Unawaited("the home does not await this letter")
        if letter[0] in ASKING:
            self.standing.append(letter)
            return self.work_on()
        return self.hear(letter) + self.work_on()

    def far(self):
        return self.far_words

    def book(self):
        return (self.writer, nears_in(self.readers))

    def row(self):
        return list(self.standing)

    def work(self):
        if self.at_work is None:
            return None
        return (self.at_work, [(self.awaited_word, near) for near in nears_in(self.awaited_nears)])

    def picture(self):
        work = self.work()
        if work is not None:
            work = (work[0], tuple(work[1]))
        return (self.far_words, self.writer, tuple(nears_in(self.readers)), tuple(self.standing), work)

    def twin(self):
        other = Home(self.line, self.near_count, self.far_words)
        other.writer = self.writer
        other.readers = self.readers
        other.standing = list(self.standing)
        other.at_work = self.at_work
        other.awaited_word = self.awaited_word
        other.awaited_nears = self.awaited_nears
        return other

    def awaits(self, letter):
        word = letter[0]
        near = letter[2]
        if letter[1] != self.line or not 0 <= near < self.near_count:
            return False
        # Things of other kinds are not compared: their own idea of being equal must not count.
        if not isinstance(word, str):
            return False
        if word in ASKING:
            return not self.has_asked(near)
        return word == self.awaited_word and near in nears_in(self.awaited_nears)

    # Whether a letter of this near that asks is still without its answer. Behind a grant the near has all that it
    # asked for, and may ask again ahead of its took: the roads let the later letter pass the earlier one.
    def has_asked(self, near):
        if any([letter[2] == near for letter in self.standing]):
            return True
        return self.at_work is not None and self.at_work[2] == near and self.awaited_word != "took"

    def letter_of(self, word, near, words):
        return make_letter(word, self.line, near, words)

    # The methods from here on, but strike_out, give back the list of the letters sent.
    def work_on(self):
        sent = []
        while self.at_work is None and self.standing:
            sent = sent + self.begin(self.standing.pop(0))
        return sent

    def begin(self, letter):
        if letter[0] == "back":
            self.strike_out(letter)
            return [self.letter_of("gone", letter[2], None)]
        self.at_work = letter
        writers = 0 if self.writer is None else with_near(0, self.writer)
        if letter[0] == "read":
            return self.call_in("lower", "lowered", writers)
        return self.call_in("yield", "yielded", without_near(writers | self.readers, letter[2]))

    def call_in(self, word, answer, nears):
        if nears == 0:
            return self.grant()
        self.awaited_word = answer
        self.awaited_nears = nears
        return [self.letter_of(word, near, None) for near in nears_in(nears)]

    def grant(self):
        near = self.at_work[2]
        self.awaited_word = "took"
        self.awaited_nears = with_near(0, near)
        if self.at_work[0] == "read":
            self.readers = with_near(self.readers, near)
            return [self.letter_of("share", near, self.far_words)]
        self.writer = near
        self.readers = 0
        return [self.letter_of("own", near, self.far_words)]

    def hear(self, letter):
        if letter[0] == "took":
            self.at_work = None
            self.awaited_word = None
            self.awaited_nears = 0
            return []
        self.strike_out(letter)
        if letter[0] == "lowered":
            self.readers = with_near(self.readers, letter[2])
        self.awaited_nears = without_near(self.awaited_nears, letter[2])
        if self.awaited_nears == 0:
            return self.grant()
        return []

    # Only the writer's letter bears words that count: those of a reader are the home's own.
    def strike_out(self, letter):
        if self.writer == letter[2]:
            self.far_words = letter[3]
            self.writer = None
        self.readers = without_near(self.readers, letter[2])
