"""All orders in which the letters of a house can come."""

from linewarden.errors import TooMany


# The rows that were found so far: their numbers by their pictures, and the houses that are still to be walked from.
class Found:
    def __init__(self, most):
        self.most = most
        self.numbers = {}
        self.unwalked = []

    def number_of(self, house):
        picture = house.picture()
        if picture not in self.numbers:
            if len(self.numbers) >= self.most:
                raise TooMany("more rows are needed")
            self.numbers[picture] = len(self.numbers)
            self.unwalked.append(house)
        return self.numbers[picture]


def all_orders(house, most):
    found = Found(most)
    found.number_of(house)
    ways = []
    while found.unwalked:
        ways.append(ways_from(found.unwalked.pop(0), found))
    # Pictures and ways both stand in the order in which the rows were found, as a dict keeps that of its keys.
    return list(zip(found.numbers, ways))


def ways_from(house, found):
    letters = dict(house.letters())
    numbers = sorted(house.may_come(), key=lambda number: place_of(letters[number]))
    return [(letters[number], found.number_of(house_behind(house, number))) for number in numbers]


def place_of(letter):
    return (letter[1], letter[2], letter[0])


def house_behind(house, number):
    other = house.twin()
    other.come(number)
    return other
