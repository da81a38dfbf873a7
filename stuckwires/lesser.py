"""What may be left out of a works without anybody's seeing it."""

from stuckwires.faults import every_fault, stuck_places
from stuckwires.seen import first_unlike, outputs_seen

# The kinds of constants, each at the place of its worth.
CONSTANTS = ("zero", "one")


def is_spare(works, fault):
    stuck = stuck_places(works, [fault])
    if ("wire", wire_of(works, fault)) in constants_stuck(works):
        return False
    return first_unlike(works, stuck, {}) is None


def is_bare(works):
    read = read_wires(works)
    if not all([works[0] + gate in read for gate in range(len(works[1]))]):
        return False
    return not any([is_spare(works, fault) for fault in gate_faults(works)])


def made_less(works):
    return without_unread(stuck_for_good(works, stuck_unseen(works)))


def gate_faults(works):
    return [fault for fault in every_fault(works) if fault[0] == "leg" or fault[1] >= works[0]]


# The wire that is stuck, or that the stuck leg reads.
def wire_of(works, fault):
    if fault[0] == "wire":
        return fault[1]
    return works[1][fault[1]][1][fault[2]]


# A constant's wire never has another worth, so it may be taken as stuck.
def constants_stuck(works):
    stuck = {}
    for gate, body in enumerate(works[1]):
        if body[0] in CONSTANTS:
            stuck[("wire", works[0] + gate)] = CONSTANTS.index(body[0])
    return stuck


# With one more stuck, another one that was seen may be unseen: so it goes round till nothing more can be stuck.
def stuck_unseen(works):
    right = outputs_seen(works, {})
    stuck = constants_stuck(works)
    count = -1
    while count < len(stuck):
        count = len(stuck)
        for fault in gate_faults(works):
            place = fault[:-1]
            if place in stuck or ("wire", wire_of(works, fault)) in stuck:
                continue
            more = dict(stuck)
            more[place] = fault[-1]
            if outputs_seen(works, more) == right:
                stuck = more
    return stuck


# The two constants stand ahead of all gates, where every leg may read them.
def stuck_for_good(works, stuck):
    gates = [(kind, ()) for kind in CONSTANTS]
    for gate, body in enumerate(works[1]):
        legs = [leg_behind(works, stuck, ("leg", gate, leg), wire) for leg, wire in enumerate(body[1])]
        gates.append((body[0], tuple(legs)))
    return (works[0], gates, [wire_behind(works, stuck, wire) for wire in works[2]])


def leg_behind(works, stuck, place, wire):
    if place in stuck:
        return works[0] + stuck[place]
    return wire_behind(works, stuck, wire)


def wire_behind(works, stuck, wire):
    if ("wire", wire) in stuck:
        return works[0] + stuck[("wire", wire)]
    return wire if wire < works[0] else wire + len(CONSTANTS)


def without_unread(works):
    read = read_wires(works)
    wires = [wire for wire in range(works[0] + len(works[1])) if wire < works[0] or wire in read]
    numbers = dict([(wire, number) for number, wire in enumerate(wires)])
    gates = []
    for wire in wires[works[0]:]:
        body = works[1][wire - works[0]]
        gates.append((body[0], tuple([numbers[leg] for leg in body[1]])))
    return (works[0], gates, [numbers[wire] for wire in works[2]])


# From the last gate on, so that a gate that is read by unread ones alone is unread too.
def read_wires(works):
    read = list(works[2])
    for gate in range(len(works[1]) - 1, -1, -1):
        if works[0] + gate in read:
            read.extend(works[1][gate][1])
    return read
