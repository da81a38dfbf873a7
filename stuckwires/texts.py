"""Works and faults written as texts, and read from them."""

from stuckwires.errors import NoText
from stuckwires.works import is_kind, works_of

FIGURES = "0123456789"


def show_works(works):
    rows = [shown_row("in", [works[0]])]
    rows.extend([shown_row(kind, legs) for kind, legs in works[1]])
    rows.append(shown_row("out", works[2]))
    return "\n".join(rows)


def show_fault(fault):
    return shown_row(fault[0], fault[1:])


def read_works(text):
    rows = [read_row(row) for row in text.split("\n")]
    first = rows[0]
    last = rows[-1]
    if first[0] != "in" or len(first[1]) != 1:
        raise NoText("a works begins with its number of inputs")
    if last[0] != "out":
        raise NoText("a works ends with its outputs")
    gates = rows[1:-1]
    if not all([is_kind(kind) for kind, legs in gates]):
        raise NoText("a row of a gate begins with its kind")
    return works_of(first[1][0], gates, list(last[1]))


def read_fault(text):
    fault = read_row(text)
    word = fault[0]
    numbers = fault[1]
    if not (word == "wire" and len(numbers) == 2) and not (word == "leg" and len(numbers) == 3):
        raise NoText("a fault is of a wire or of a leg")
    if numbers[-1] not in (0, 1):
        raise NoText("a fault's worth is 0 or 1")
    return (word,) + numbers


def shown_row(word, numbers):
    return " ".join([word] + [str(number) for number in numbers])


# A word of any kind, and the numbers behind it as a tuple.
def read_row(row):
    parts = row.split(" ")
    return (parts[0], tuple([read_number(part) for part in parts[1:]]))


# Figure by figure, as int takes signs, blanks and underscores too, and not so many figures as a text may have.
def read_number(text):
    if text == "" or (text[0] == "0" and text != "0"):
        raise NoText("a number has a figure, and no 0 ahead of others")
    number = 0
    for sign in text:
        if sign not in FIGURES:
            raise NoText("a number is written in figures")
        number = number * 10 + FIGURES.index(sign)
    return number
