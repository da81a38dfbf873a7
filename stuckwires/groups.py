"""Faults that no row tells apart, and the row that parts others."""

from stuckwires.faults import every_fault, stuck_places
from stuckwires.seen import first_unlike, outputs_seen


def parted_at(works, faults, others):
    return first_unlike(works, stuck_places(works, faults), stuck_places(works, others))


def fault_groups(works):
    right = seen_key(works, [])
    never_found = []
    groups = {}
    for fault in every_fault(works):
        key = seen_key(works, [fault])
        if key == right:
            never_found.append(fault)
        else:
            groups.setdefault(key, []).append(fault)
    return list(groups.values()) + [never_found]


# Lists can't be looked up in a dict, tuples can.
def seen_key(works, faults):
    return tuple([tuple(outputs) for outputs in outputs_seen(works, stuck_places(works, faults))])
