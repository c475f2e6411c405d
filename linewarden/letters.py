"""Letters between nears and homes, and the roads that they go."""

from linewarden.errors import NoWord

HOME_WORDS = ("read", "write", "back", "lowered", "yielded", "took")
NEAR_WORDS = ("lower", "yield", "share", "own", "gone")


def to_home(word):
    # Things of other kinds are not compared: their own idea of being equal must not count.
    if isinstance(word, str):
        if word in HOME_WORDS:
            return True
        if word in NEAR_WORDS:
            return False
    # The word is not shown: not every thing that may be handed in can be written as a text.
    raise NoWord("this is no word of a letter")


def make_letter(word, line, near, words=None):
    # Asked for its refusal alone.
    to_home(word)
    return (word, line, near, words)


def road_of(letter):
    return (letter[1], letter[2], to_home(letter[0]))
