"""Faults of a works, and the worths that its wires have with them."""

from stuckwires.errors import NoFault
from stuckwires.works import check_row, gate_worth, outputs_at


def every_fault(works):
    places = [("wire", wire) for wire in range(works[0] + len(works[1]))]
    for gate, body in enumerate(works[1]):
        for leg in range(len(body[1])):
            places.append(("leg", gate, leg))
    faults = []
    for place in places:
        faults.append(place + (0,))
        faults.append(place + (1,))
    return faults


def stuck_worths(works, faults, row):
    check_row(works, row)
    return worths_with(works, stuck_places(works, faults), row)


def stuck_outputs(works, faults, row):
    check_row(works, row)
    return outputs_with(works, stuck_places(works, faults), row)


def finds(works, faults, row):
    right = outputs_at(works, row)
    return stuck_outputs(works, faults, row) != right


# A place is a fault without its worth: two faults are of one wire or one leg where their places are equal.
def stuck_places(works, faults):
    known_faults = every_fault(works)
    stuck = {}
    for fault in faults:
        if fault not in known_faults:
            raise NoFault("the works has no such fault")
        place = fault[:-1]
        if place in stuck:
            raise NoFault("two faults are of one wire or one leg")
        stuck[place] = fault[-1]
    return stuck


# From here on rows and faults have been judged. Worths, stuck ones too, may stand for many rows at once, as
# gate_worth tells.
def worths_with(works, stuck, row, ones=1):
    worths = [stuck.get(("wire", wire), worth) for wire, worth in enumerate(row)]
    for gate, body in enumerate(works[1]):
        read = leg_worths(stuck, gate, [worths[leg] for leg in body[1]])
        worth = gate_worth(body[0], read, ones)
        worths.append(stuck.get(("wire", works[0] + gate), worth))
    return worths


def leg_worths(stuck, gate, worths):
    return [stuck.get(("leg", gate, leg), worth) for leg, worth in enumerate(worths)]


def outputs_with(works, stuck, row, ones=1):
    worths = worths_with(works, stuck, row, ones)
    return [worths[wire] for wire in works[2]]
