"""Deeds: what is asked of a near at an address."""

from linewarden.errors import NoDeed

# The word of each kind of deed, and how many parts its tuple has.
FORMS = (("read", 2), ("write", 3), ("add", 3), ("swap", 4))


# What the kinds have in common; each kind has its own where it differs.
class Deed:
    def __init__(self, parts):
        self.parts = parts

    def plain(self):
        return self.parts

    def place(self):
        return self.parts[1]

    def wants(self):
        return "write"

    def behind(self, value):
        return value


class Read(Deed):
    def wants(self):
        return "read"


class Write(Deed):
    def behind(self, value):
        return self.parts[2]


class Add(Deed):
    def behind(self, value):
        return value + self.parts[2]


class Swap(Deed):
    def behind(self, value):
        if value == self.parts[2]:
            return self.parts[3]
        return value


def is_whole(thing):
    return isinstance(thing, int) and not isinstance(thing, bool)


# Kinds are looked at ahead of values: things of other kinds may not be fit to be compared.
def is_deed(thing):
    if not isinstance(thing, tuple) or len(thing) == 0 or not isinstance(thing[0], str):
        return False
    if (thing[0], len(thing)) not in FORMS:
        return False
    return all([is_whole(part) for part in thing[1:]]) and thing[1] >= 0


def deed_of(thing):
    if not is_deed(thing):
        # The thing is not shown: not every thing that may be handed in can be written as a text.
        raise NoDeed("this is no deed")
    parts = tuple(thing)
    if parts[0] == "read":
        return Read(parts)
    if parts[0] == "write":
        return Write(parts)
    if parts[0] == "add":
        return Add(parts)
    return Swap(parts)
