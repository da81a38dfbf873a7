"""The first row that finds some faults, or a paper that there is none."""

from stuckwires.faults import outputs_with, stuck_places
from stuckwires.papers import outputs_alike
from stuckwires.works import every_row, outputs_at


def first_test(works, faults):
    return first_found(works, stuck_places(works, faults))


def test_told(works, faults):
    stuck = stuck_places(works, faults)
    row = first_found(works, stuck)
    if row is None:
        return ("paper", paper_behind(works, stuck, []))
    return ("row", row)


def first_found(works, stuck):
    for row in every_row(works):
        if outputs_with(works, stuck, row) != outputs_at(works, row):
            return row
    return None


# It comes to an end for faults that no row finds: where all inputs are known, every pair is an alike one.
def paper_behind(works, stuck, known):
    ahead = len(known)
    if outputs_alike(works, stuck, known + [None] * (works[0] - ahead)):
        return ("same",)
    low = paper_behind(works, stuck, known + [0])
    high = paper_behind(works, stuck, known + [1])
    return ("split", ahead, low, high)
