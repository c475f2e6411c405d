"""Addresses, the lines and spots that they lie on, and the words of a line."""


def line_of(address, width):
    return address // width


def spot_of(address, width):
    return address % width


def address_of(line, spot, width):
    return line * width + spot


def blank_words(width):
    return (0,) * width


def put_in(words, spot, value):
    return words[:spot] + (value,) + words[spot + 1:]
