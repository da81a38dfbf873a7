"""The rows that a desk is told: the word of each, and what stands behind it."""

from stuckwires.errors import NoOrder
from stuckwires.texts import read_fault

WORDS_ALONE = ("clear", "fewest", "bare", "less", "next")


# A tuple of the word and of all that it is about: a text, rows of worths, or faults.
def read_order(row):
    if not isinstance(row, str) or "\n" in row:
        raise NoOrder("an order is a text without a line feed")
    if row in WORDS_ALONE:
        return (row,)
    parts = row.partition(" ")
    if parts[1] == "":
        raise NoOrder("there is no such word that stands alone")
    return (parts[0],) + read_things(parts[0], parts[2])


def read_things(word, text):
    if word == "put":
        return (text,)
    if word == "run":
        return (read_worths(text),)
    if word == "seen":
        return tuple([read_worths(part) for part in two_parts(text, " ")])
    if word == "test":
        return (read_fault(text),)
    if word == "alike":
        return tuple([read_fault(part) for part in two_parts(text, ", ")])
    raise NoOrder("there is no such word with something behind it")


def two_parts(text, between):
    parts = text.split(between)
    if len(parts) != 2:
        raise NoOrder("an order of two things parts them once")
    return parts


def read_worths(text):
    if text == "" or not all([sign in "01" for sign in text]):
        raise NoOrder("worths are figures 0 and 1, one at least")
    return [int(sign) for sign in text]
