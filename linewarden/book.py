"""Sets of nears, each kept as one whole number: near K is in it where the binary figure at place K is 1."""


def with_near(bits, near):
    return bits | (1 << near)


def without_near(bits, near):
    return bits & ~(1 << near)


def count_in(bits):
    return len(nears_in(bits))


def nears_in(bits):
    return [near for near in range(bits.bit_length()) if (bits >> near) & 1 == 1]
