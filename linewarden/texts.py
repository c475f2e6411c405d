"""Numbers and values, as they are written in a row of text."""

from linewarden.errors import NoRow

FIGURES = "0123456789"
MOST_FIGURES = 60


# Python's own reading of a number lets more through: blanks, underscores, a sign ahead, noughts ahead.
def is_number(text):
    if not 1 <= len(text) <= MOST_FIGURES or not all([sign in FIGURES for sign in text]):
        return False
    return text == "0" or text[0] != "0"


def read_number(text):
    if not isinstance(text, str) or not is_number(text):
        # The text is not shown: not every thing that may be handed in can be written as a text.
        raise NoRow("this is no number")
    return int(text)


def read_value(text):
    if isinstance(text, str) and text.startswith("-") and text != "-0":
        return -read_number(text[1:])
    return read_number(text)
