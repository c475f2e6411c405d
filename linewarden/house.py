"""A house: nears and homes, the roads between them, and the trail of the deeds that were answered."""

from linewarden.deeds import deed_of
from linewarden.errors import NoHouse, NoPlace
from linewarden.home import Home
from linewarden.letters import road_of, to_home
from linewarden.lines import blank_words, line_of
from linewarden.near import Near
from linewarden.roads import Roads

# The most that a house may have of nears, lines, WIDTH and ROOM.
BOUNDS = (16, 64, 16, 64)


class House:
    def __init__(self, nears, lines, width, room, ordered=False):
        if not all([1 <= size <= most for size, most in zip((nears, lines, width, room), BOUNDS)]):
            raise NoHouse("no house has these numbers")
        self.width = width
        self.room = room
        self.ordered = ordered
        self.stores = [Near(near, width, room) for near in range(nears)]
        self.homes = [Home(line, nears, blank_words(width)) for line in range(lines)]
        self.roads = Roads(ordered)
        self.done = []

    def ask(self, near, deed):
        store = self.store_of(near)
        # Asked for its refusal alone.
        self.home_of(line_of(deed_of(deed).place(), self.width))
        answered = len(store.told())
        ahead = answered + len(store.waiting())
        self.send_all(store.ask(deed))
        self.put_on_trail(near, answered)
        return ahead

    def come(self, number):
        letter = self.roads.take(number)
        if to_home(letter[0]):
            self.send_all(self.home_of(letter[1]).come(letter))
            return letter
        store = self.store_of(letter[2])
        answered = len(store.told())
        self.send_all(store.come(letter))
        self.put_on_trail(letter[2], answered)
        return letter

    def letters(self):
        return self.roads.letters()

    def may_come(self):
        return self.roads.may_come()

    def trail(self):
        return list(self.done)

    def answers(self, near):
        return [value for deed, value in self.store_of(near).told()]

    def waiting(self, near):
        return self.store_of(near).waiting()

    def may(self, near, line):
        return self.store_with(near, line).may(line)

    def words(self, near, line):
        return self.store_with(near, line).words_of(line)

    def book(self, line):
        return self.home_of(line).book()

    def far(self, line):
        return self.home_of(line).far()

    def picture(self):
        stores = tuple([store.picture() for store in self.stores])
        homes = tuple([home.picture() for home in self.homes])
        return (stores, homes, tuple(self.letters_by_roads()))

    def twin(self):
        # The smallest house, as its nears and homes give way to twins of these.
        other = House(1, 1, self.width, self.room, self.ordered)
        other.stores = [store.twin() for store in self.stores]
        other.homes = [home.twin() for home in self.homes]
        other.roads = self.roads.twin()
        other.done = list(self.done)
        return other

    def store_of(self, near):
        if not 0 <= near < len(self.stores):
            raise NoPlace("the house does not have this near")
        return self.stores[near]

    # A near knows nothing of how many lines there are, so the house itself refuses the others.
    def store_with(self, near, line):
        self.home_of(line)
        return self.store_of(near)

    def home_of(self, line):
        if not 0 <= line < len(self.homes):
            raise NoPlace("the house does not have this line")
        return self.homes[line]

    def send_all(self, letters):
        for letter in letters:
            self.roads.send(letter)

    # A near tells all that it ever answered; those that it had answered earlier stand on the trail already.
    def put_on_trail(self, near, answered):
        for deed, value in self.store_of(near).told()[answered:]:
            self.done.append((near, deed, value))

    def letters_by_roads(self):
        # By their numbers; each sorting keeps those in their order that it does not part.
        letters = [letter for number, letter in self.roads.letters()]
        if not self.ordered:
            letters = sorted(letters, key=lambda letter: letter[0])
        return sorted(letters, key=road_of)
