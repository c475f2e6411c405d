"""The eight states in which a line may stand in a near."""

from linewarden.errors import Unawaited


# No state ever changes: a letter that is met leads to another one.
class Held:
    def __init__(self, kind, may, words):
        self.own_kind = kind
        self.own_may = may
        self.own_words = words

    def kind(self):
        return self.own_kind

    def may(self):
        return self.own_may

    def words(self):
        return self.own_words

    def met(self, word, words=None):
        step = None
        # Things of other kinds are not compared: their own idea of being equal must not count.
        if isinstance(word, str):
            step = self.step_by(word, words)
        if step is None:
            raise Unawaited("the line's state does not await this word")
        return step

    # What met tells, or None where the word is not awaited.
    def step_by(self, word, words):
        return None


class Away(Held):
    def __init__(self):
        Held.__init__(self, "away", "none", None)


class Reader(Held):
    def __init__(self, words):
        Held.__init__(self, "reader", "read", words)

    def step_by(self, word, words):
        if word == "yield":
            return (Away(), ("yielded", None))
        return None


class Writer(Held):
    def __init__(self, words):
        Held.__init__(self, "writer", "write", words)

    def step_by(self, word, words):
        if word == "lower":
            return (Reader(self.own_words), ("lowered", self.own_words))
        if word == "yield":
            return (Away(), ("yielded", self.own_words))
        return None


class WantsRead(Held):
    def __init__(self):
        Held.__init__(self, "wants read", "none", None)

    def step_by(self, word, words):
        if word == "share":
            return (Reader(words), ("took", None))
        return None


class WantsWrite(Held):
    def __init__(self, words=None):
        Held.__init__(self, "wants write", "none" if words is None else "read", words)

    def step_by(self, word, words):
        if word == "own":
            return (Writer(words), ("took", None))
        if word == "yield" and self.own_words is not None:
            return (WantsWrite(), ("yielded", None))
        return None


class LeavingWriter(Held):
    def __init__(self, words):
        Held.__init__(self, "leaving writer", "none", words)

    def step_by(self, word, words):
        if word == "lower":
            return (LeavingReader(), ("lowered", self.own_words))
        if word == "yield":
            return (LeavingEmpty(), ("yielded", self.own_words))
        if word == "gone":
            return (Away(), None)
        return None


class LeavingReader(Held):
    def __init__(self):
        Held.__init__(self, "leaving reader", "none", None)

    def step_by(self, word, words):
        if word == "yield":
            return (LeavingEmpty(), ("yielded", None))
        if word == "gone":
            return (Away(), None)
        return None


class LeavingEmpty(Held):
    def __init__(self):
        Held.__init__(self, "leaving empty", "none", None)

    def step_by(self, word, words):
        if word == "gone":
            return (Away(), None)
        return None
