"""A desk: it keeps a house and answers rows of text with texts."""

from linewarden.errors import NoHouse, NoLetter, NoRow
from linewarden.house import House
from linewarden.letters import HOME_WORDS, NEAR_WORDS
from linewarden.looks import is_calm, last_words, told_number
from linewarden.orders import all_orders
from linewarden.texts import read_number, read_value

# What stands behind the first word of each row.
ROWS = {
    "house": ("number", "number", "number", "number", "order"),
    "read": ("number", "number"),
    "write": ("number", "number", "value"),
    "add": ("number", "number", "value"),
    "swap": ("number", "number", "value", "value"),
    "come": ("word", "number", "number"),
    "rest": (),
    "letters": (),
    "told": ("number",),
    "waits": ("number",),
    "may": ("number", "number"),
    "line": ("number", "number"),
    "far": ("number",),
    "book": ("number",),
    "last": ("number",),
    "number": (),
    "calm": (),
    "orders": ("most",),
}
DEEDS = ("read", "write", "add", "swap")
# How the roads are called: without order, and with it.
ORDERS = ("any", "order")


class Desk:
    def __init__(self):
        self.house = None

    def say(self, row):
        parts = parts_of(row)
        if parts[0] == "house":
            self.house = House(parts[1], parts[2], parts[3], parts[4], parts[5])
            return "ok"
        if self.house is None:
            raise NoHouse("there is no house yet")
        return answer_to(self.house, parts)


# The first word of a row, and what the others stand for.
def parts_of(row):
    if not isinstance(row, str):
        raise NoRow("this is no text")
    words = row.split(" ")
    if words[0] not in ROWS or len(words) != len(ROWS[words[0]]) + 1:
        raise NoRow("no row has these words")
    return words[:1] + [read_part(kind, word) for kind, word in zip(ROWS[words[0]], words[1:])]


def read_part(kind, word):
    if kind == "value":
        return read_value(word)
    if kind == "word":
        return read_choice(word, HOME_WORDS + NEAR_WORDS)
    if kind == "order":
        return read_choice(word, ORDERS) == "order"
    number = read_number(word)
    if kind == "most" and number == 0:
        raise NoRow("no list has so few rows")
    return number


def read_choice(word, choices):
    if word not in choices:
        raise NoRow("no row has this word here")
    return word


def answer_to(house, parts):
    word = parts[0]
    if word in DEEDS:
        house.ask(parts[1], (word,) + tuple(parts[2:]))
        return "ok"
    if word == "come":
        house.come(smallest_number(house, tuple(parts[1:])))
        return "ok"
    if word == "rest":
        return str(let_all_come(house))
    return told_by(house, parts)


def told_by(house, parts):
    word = parts[0]
    if word == "letters":
        return "; ".join([in_a_row(letter[:3]) for number, letter in house.letters()])
    if word == "told":
        return in_a_row(house.answers(parts[1]))
    if word == "waits":
        return str(len(house.waiting(parts[1])))
    if word == "may":
        return house.may(parts[1], parts[2])
    if word == "line":
        words = house.words(parts[1], parts[2])
        return "none" if words is None else in_a_row(words)
    if word == "far":
        return in_a_row(house.far(parts[1]))
    if word == "book":
        return in_a_row(book_words(house.book(parts[1])))
    if word == "last":
        return in_a_row(last_words(house.picture(), parts[1]))
    if word == "number":
        return str(told_number(house.picture()))
    if word == "calm":
        return "yes" if is_calm(house.picture()) else "no"
    return str(len(all_orders(house, parts[1])))


def in_a_row(parts):
    return " ".join([str(part) for part in parts])


def book_words(book):
    if book[0] is not None:
        return ["writer", book[0]]
    return ["readers"] + book[1] if book[1] else ["nobody"]


# Letters are told by rising numbers, so the first one that begins with these three parts is the one to take.
def smallest_number(house, start):
    for number, letter in house.letters():
        if letter[:3] == start:
            return number
    raise NoLetter("no such letter is under way")


# Tells how many letters came.
def let_all_come(house):
    came = 0
    letters = house.letters()
    while letters:
        house.come(letters[0][0])
        came += 1
        letters = house.letters()
    return came
