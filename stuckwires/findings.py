"""The first row that finds some faults, or a paper that there is none."""

from stuckwires.faults import stuck_places
from stuckwires.papers import outputs_alike
from stuckwires.seen import first_unlike


def first_test(works, faults):
    return first_unlike(works, stuck_places(works, faults), {})


def test_told(works, faults):
    stuck = stuck_places(works, faults)
    row = first_unlike(works, stuck, {})
    if row is None:
        return ("paper", paper_behind(works, stuck, []))
    return ("row", row)


# It comes to an end for faults that no row finds: where all inputs are known, every pair is an alike one.
def paper_behind(works, stuck, known):
    ahead = len(known)
    if outputs_alike(works, stuck, known + [None] * (works[0] - ahead)):
        return ("same",)
    low = paper_behind(works, stuck, known + [0])
    high = paper_behind(works, stuck, known + [1])
    return ("split", ahead, low, high)
