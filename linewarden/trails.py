"""What a trail of answered deeds tells: its memory, its faults, and the tuples of a line or of a near."""

from linewarden.deeds import deed_of
from linewarden.lines import line_of


# The values that the deeds find, one for each, and what they leave at each address.
def done_in_order(trail):
    found = []
    memory = {}
    for row in trail:
        deed = deed_of(row[1])
        value = memory.get(deed.place(), 0)
        found.append(value)
        memory[deed.place()] = deed.behind(value)
    return (found, memory)


def memory_of(trail):
    memory = done_in_order(trail)[1]
    return sorted(memory.items())


def faults_of(trail):
    found = done_in_order(trail)[0]
    return [place for place, row in enumerate(trail) if row[2] != found[place]]


def rows_of_line(trail, line, width):
    return [row for row in trail if line_of(deed_of(row[1]).place(), width) == line]


def rows_of_near(trail, near):
    return [row for row in trail if row[0] == near]
