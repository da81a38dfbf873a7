"""A desk: it is told rows of a works and orders about it, and answers each by a text."""

from stuckwires.answers import next_row, what_fits
from stuckwires.fewest import fewest_rows
from stuckwires.findings import first_test
from stuckwires.groups import parted_at
from stuckwires.lesser import is_bare, made_less
from stuckwires.orders import read_order
from stuckwires.texts import read_works, show_works
from stuckwires.works import outputs_at


class Desk:
    def __init__(self):
        self.rows = []
        self.answers = []

    def say(self, row):
        order = read_order(row)
        word = order[0]
        if word == "put":
            return self.keep_rows(self.rows + [order[1]])
        if word == "clear":
            return self.keep_rows([])
        works = read_works("\n".join(self.rows))
        if word == "less":
            return self.keep_less(works)
        if word == "seen":
            return self.keep_answer(works, order[1], order[2])
        if word == "next":
            return shown_or(next_row(works, self.answers), "none")
        return told_of(works, order)

    # What was seen was seen of the works of the rows before.
    def keep_rows(self, rows):
        self.rows = rows
        self.answers = []
        count = len(rows)
        return f"rows {count}"

    def keep_less(self, works):
        less = made_less(works)
        self.keep_rows(show_works(less).split("\n"))
        before = len(works[1])
        after = len(less[1])
        return f"gates {before} to {after}"

    # It is kept last, as a row that is none is refused ahead of it.
    def keep_answer(self, works, row, outputs):
        answers = self.answers + [(row, outputs)]
        count = len(what_fits(works, answers))
        self.answers = answers
        return f"fits {count}"


def told_of(works, order):
    word = order[0]
    if word == "run":
        return shown(outputs_at(works, order[1]))
    if word == "test":
        return shown_or(first_test(works, [order[1]]), "never")
    if word == "alike":
        return shown_or(parted_at(works, [order[1]], [order[2]]), "yes")
    if word == "fewest":
        return str(len(fewest_rows(works)))
    return "yes" if is_bare(works) else "no"


def shown_or(row, word):
    return word if row is None else shown(row)


def shown(worths):
    return "".join([str(worth) for worth in worths])
