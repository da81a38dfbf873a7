"""What is seen of faults at the rows of a works."""

from stuckwires.faults import every_fault, outputs_with, stuck_places
from stuckwires.works import every_row


# What is stuck is a dict from places to worths, as stuck_places of faults.py tells it; {} is a works without faults.
def outputs_seen(works, stuck):
    return [outputs_with(works, stuck, row) for row in every_row(works)]


def first_unlike(works, stuck, others):
    for row in every_row(works):
        if outputs_with(works, stuck, row) != outputs_with(works, others, row):
            return row
    return None


# Rows go by their numbers here, which are lighter to look up than lists; a fault that no row finds has no entry.
def finding_rows(works):
    right = outputs_seen(works, {})
    finding = {}
    for fault in every_fault(works):
        seen = outputs_seen(works, stuck_places(works, [fault]))
        numbers = [number for number, outputs in enumerate(seen) if outputs != right[number]]
        if len(numbers) > 0:
            finding[fault] = numbers
    return finding
