"""What a picture of a house tells: clashes, calm, the told number, odd lines and last words.

A picture may be one that no house can come to, so nothing is taken for granted but its form.
"""

from linewarden.errors import NoPlace
from linewarden.lines import line_of

# The letters by which a near wants a line, and the answers of those that have to part with it.
LINE_WANTED = ("read", "write")
CALLED_IN = ("lowered", "yielded")
# The letters that add 2 to the told number while they are under way.
ADDING_TWO = ("lower", "yield", "share", "own", "back")


def clash_lines(picture):
    return [line for line, states in enumerate(states_by_line(picture)) if is_clash(states)]


def is_calm(picture):
    rows = [picture[2]] + [store[2] for store in picture[0]] + [home[3] for home in picture[1]]
    return all([len(row) == 0 for row in rows]) and all([home[4] is None for home in picture[1]])


def told_number(picture):
    count = len(picture[0])
    of_nears = sum([number_of_near(picture, store) for store in picture[0]])
    of_homes = sum([number_of_home(home, count) for home in picture[1]])
    return of_nears + of_homes + sum([number_under_way(letter[0], count) for letter in picture[2]])


def odd_lines(picture):
    states = states_by_line(picture)
    return [line for line, home in enumerate(picture[1]) if is_odd(home, states[line])]


def last_words(picture, line):
    if not 0 <= line < len(picture[1]):
        raise NoPlace("the house does not have this line")
    home = picture[1][line]
    states = states_by_line(picture)[line]
    known = [words for near, kind, words in states if kind == "writer"]
    known = known + [letter[3] for letter in picture[2] if letter[1] == line and brings_words(letter)]
    # A near that gave a line back has its last words until the home has them, which then has it as writer no more.
    known = known + [words for near, kind, words in states if near == home[1] and kind == "leaving writer"]
    return (known + [home[0]])[0]


# Of each line, by number, the list of (near, kind, words) of the nears in which it is not away.
def states_by_line(picture):
    states = [[] for home in picture[1]]
    for near, store in enumerate(picture[0]):
        for line, kind, words in store[0]:
            states[line].append((near, kind, words))
    return states


def holds(kind, words):
    return kind in ("reader", "writer") or (kind == "wants write" and words is not None)


def writers_in(states):
    return [near for near, kind, words in states if kind == "writer"]


def holders_in(states):
    return [state for state in states if holds(state[1], state[2])]


def is_clash(states):
    return len(writers_in(states)) > 0 and len(holders_in(states)) > 1


def is_odd(home, states):
    others = [state for state in holders_in(states) if state[1] != "writer"]
    # Several writers are never just the one that a book can have.
    if writers_in(states) != ([] if home[1] is None else [home[1]]):
        return True
    if [near for near, kind, words in others] != sorted(home[2]):
        return True
    return any([words != home[0] for near, kind, words in others])


def brings_words(letter):
    return letter[0] in CALLED_IN and letter[3] is not None


def number_of_near(picture, store):
    row = store[2]
    each = 2 * len(picture[0]) + 3
    if len(row) == 0:
        return 0
    return each * len(row) - (each if is_sent_for(picture, store, row[0]) else 2)


def is_sent_for(picture, store, deed):
    width = len(picture[1][0][0])
    wanted = [line for line, kind, words in store[0] if kind in ("wants read", "wants write")]
    return line_of(deed[1], width) in wanted


def number_of_home(home, count):
    number = sum([number_in_row(letter[0], count) for letter in home[3]])
    work = home[4]
    if work is not None and any([word in CALLED_IN for word, near in work[1]]):
        return number + 2
    return number


def number_in_row(word, count):
    if word in LINE_WANTED:
        return 2 * count
    return 1 if word == "back" else 0


def number_under_way(word, count):
    if word in LINE_WANTED:
        return 2 * count + 1
    return 2 if word in ADDING_TWO else 1
