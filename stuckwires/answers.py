"""What fits the answers of a works, the row to ask next, and how many rows a plan asks."""

from stuckwires.fewest import check_inputs
from stuckwires.seen import outputs_in, outputs_seen, seen_of_each
from stuckwires.works import check_row, every_row

WELL = ("well",)


def what_fits(works, answers):
    return list(seen_of_fitting(works, answers))


def next_row(works, answers):
    rows = every_row(works)
    number = next_number(seen_of_fitting(works, answers), len(rows))
    return None if number is None else rows[number]


def plan_depth(works):
    check_inputs(works)
    return depth_behind(seen_of_all(works), len(every_row(works)))


# What is left goes as a dict: of each that fits, a fault or the well one, what outputs_seen of seen.py tells.
def seen_of_fitting(works, answers):
    for row, outputs in answers:
        check_row(works, row)
    left = seen_of_all(works)
    for row, outputs in answers:
        left = left_behind(left, row_number(row), outputs)
    return left


def seen_of_all(works):
    left = {WELL: outputs_seen(works, {})}
    left.update(seen_of_each(works))
    return left


def row_number(row):
    number = 0
    for worth in row:
        number = number * 2 + worth
    return number


def left_behind(left, number, outputs):
    return dict([(name, seen) for name, seen in left.items() if outputs_in(seen, number) == outputs])


# A row that parts nothing leaves all of them, so it is never better than none.
def next_number(left, count):
    best = None
    least = len(left)
    for number in range(count):
        greatest = max([len(part) for part in parts_at(left, number)], default=0)
        if greatest < least:
            best = number
            least = greatest
    return best


def parts_at(left, number):
    parts = {}
    for name, seen in left.items():
        part = parts.setdefault(tuple(outputs_in(seen, number)), {})
        part[name] = seen
    return list(parts.values())


# Every row that is asked parts those that fit, so it goes no deeper than there are rows.
def depth_behind(left, count):
    number = next_number(left, count)
    if number is None:
        return 0
    return 1 + max([depth_behind(part, count) for part in parts_at(left, number)])
