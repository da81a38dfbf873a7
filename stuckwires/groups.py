"""Faults that no row tells apart, and the row that parts others."""

from stuckwires.faults import stuck_places
from stuckwires.seen import first_unlike, outputs_seen, seen_of_each


def parted_at(works, faults, others):
    return first_unlike(works, stuck_places(works, faults), stuck_places(works, others))


def fault_groups(works):
    right = outputs_seen(works, {})
    never_found = []
    groups = {}
    for fault, seen in seen_of_each(works).items():
        if seen == right:
            never_found.append(fault)
        else:
            # Lists can't be looked up in a dict, tuples can.
            groups.setdefault(tuple(seen), []).append(fault)
    return list(groups.values()) + [never_found]
