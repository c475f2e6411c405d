"""A near: a store with room for a few lines, and the row of the deeds that are asked of it."""

from linewarden.deeds import deed_of
from linewarden.errors import Unawaited
from linewarden.held import Away, LeavingReader, LeavingWriter, WantsRead, WantsWrite, Writer
from linewarden.letters import make_letter
from linewarden.lines import line_of, put_in, spot_of

LEAVING = ("leaving writer", "leaving reader", "leaving empty")


class Near:
    def __init__(self, number, width, room):
        self.number = number
        self.width = width
        self.room = room
        # Of the lines that are not away alone, so that its length is what the room bounds.
        self.states = {}
        # Each line that was ever used, once, the one used longest ago first.
        self.uses = []
        self.asked = []
        self.answered = []

    def ask(self, deed):
        self.asked.append(deed_of(deed))
        return self.work_on()

    def come(self, letter):
        if letter[2] != self.number:
            raise Unawaited("this letter is another near's")
        line = letter[1]
        step = self.state_of(line).met(letter[0], letter[3])
        self.put_state(line, step[0])
        answer = step[1]
        if answer is None:
            return self.work_on()
        return [self.letter_of(answer[0], line, answer[1])] + self.work_on()

    def told(self):
        return list(self.answered)

    def waiting(self):
        return [deed.plain() for deed in self.asked]

    def kind_of(self, line):
        return self.state_of(line).kind()

    def may(self, line):
        return self.state_of(line).may()

    def words_of(self, line):
        return self.state_of(line).words()

    def lines(self):
        return sorted(self.states)

    def used(self):
        return [line for line in self.uses if self.may(line) != "none"]

    def picture(self):
        shown = [(line, self.kind_of(line), self.words_of(line)) for line in self.lines()]
        return (tuple(shown), tuple(self.used()), tuple(self.waiting()))

    def twin(self):
        other = Near(self.number, self.width, self.room)
        other.states = dict(self.states)
        other.uses = list(self.uses)
        other.asked = list(self.asked)
        other.answered = list(self.answered)
        return other

    def state_of(self, line):
        if line in self.states:
            return self.states[line]
        return Away()

    def put_state(self, line, state):
        if state.kind() == "away":
            self.states.pop(line)
        else:
            self.states[line] = state

    def letter_of(self, word, line, words):
        return make_letter(word, line, self.number, words)

    # The methods from here on that send something give back the list of the letters sent.
    def work_on(self):
        while self.asked and self.can_answer(self.asked[0]):
            self.answer(self.asked.pop(0))
        if self.asked:
            return self.send_for(self.asked[0])
        return []

    def can_answer(self, deed):
        # A line that may be written may be read too.
        return self.may(line_of(deed.place(), self.width)) in ("write", deed.wants())

    def answer(self, deed):
        line = line_of(deed.place(), self.width)
        spot = spot_of(deed.place(), self.width)
        words = self.words_of(line)
        self.answered.append((deed.plain(), words[spot]))
        # Behind a read the words are the same, and its line may be one that is not a writer.
        if deed.wants() == "write":
            self.put_state(line, Writer(put_in(words, spot, deed.behind(words[spot]))))
        if line in self.uses:
            self.uses.remove(line)
        self.uses.append(line)

    def send_for(self, deed):
        line = line_of(deed.place(), self.width)
        kind = self.kind_of(line)
        if kind == "reader":
            return self.want_write(line)
        if kind != "away":
            return []
        if len(self.states) >= self.room:
            return self.make_room()
        if deed.wants() == "read":
            self.put_state(line, WantsRead())
            return [self.letter_of("read", line, None)]
        return self.want_write(line)

    def want_write(self, line):
        # Of a line that is away the words are None.
        self.put_state(line, WantsWrite(self.words_of(line)))
        return [self.letter_of("write", line, None)]

    def make_room(self):
        if any([self.kind_of(line) in LEAVING for line in self.states]):
            return []
        # Each line here is reader or writer, and was used; in a near made without any room there is none.
        used = self.used()
        if not used:
            return []
        return self.give_back(used[0])

    def give_back(self, line):
        if self.kind_of(line) == "reader":
            self.put_state(line, LeavingReader())
            return [self.letter_of("back", line, None)]
        words = self.words_of(line)
        self.put_state(line, LeavingWriter(words))
        return [self.letter_of("back", line, words)]
