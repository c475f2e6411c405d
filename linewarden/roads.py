"""Roads: letters under way, by their numbers."""

from linewarden.errors import Early, NoLetter
from linewarden.letters import road_of


class Roads:
    def __init__(self, ordered=False):
        self.ordered = ordered
        self.last_number = 0
        # Numbers only ever grow, so the keys of this dict stand in a rising order by themselves.
        self.under_way = {}

    def send(self, letter):
        self.last_number += 1
        self.under_way[self.last_number] = letter
        return self.last_number

    def letters(self):
        return list(self.under_way.items())

    def may_come(self):
        if self.ordered:
            return self.firsts()
        return list(self.under_way)

    # The smallest number of each road.
    def firsts(self):
        first_of = {}
        for number, letter in self.under_way.items():
            first_of.setdefault(road_of(letter), number)
        return sorted(first_of.values())

    def take(self, number):
        if number not in self.under_way:
            raise NoLetter("no letter is under way under this number")
        if self.ordered and number not in self.firsts():
            raise Early("a letter of the same road is ahead of this one")
        return self.under_way.pop(number)

    def twin(self):
        other = Roads(self.ordered)
        other.last_number = self.last_number
        other.under_way = dict(self.under_way)
        return other
