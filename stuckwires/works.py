"""Works of gates: how they are made, their rows, and the worths of their wires."""

from stuckwires.errors import NoRow, NoWorks

# The fewest and the most legs that a kind of gate lets.
LEG_BOUNDS = {
    "and": (2, 4),
    "or": (2, 4),
    "odd": (2, 4),
    "not": (1, 1),
    "choose": (3, 3),
    "zero": (0, 0),
    "one": (0, 0),
}


def works_of(inputs, gates, outputs):
    if inputs < 1:
        raise NoWorks("a works has one input at least")
    for gate, body in enumerate(gates):
        check_gate(body[0], body[1], inputs + gate)
    if len(outputs) == 0:
        raise NoWorks("a works has one output at least")
    if not are_wires_below(outputs, inputs + len(gates)):
        raise NoWorks("an output is no wire")
    return (inputs, list(gates), list(outputs))


def check_gate(kind, legs, own_wire):
    if not is_kind(kind):
        raise NoWorks("there is no such kind of gate")
    bounds = LEG_BOUNDS[kind]
    if len(legs) < bounds[0] or len(legs) > bounds[1]:
        raise NoWorks("a gate has a number of legs that its kind does not let")
    if not are_wires_below(legs, own_wire):
        raise NoWorks("a leg reads no wire ahead of its gate's own")


def is_kind(word):
    return word in LEG_BOUNDS


def are_wires_below(numbers, bound):
    return all([0 <= number < bound for number in numbers])


def wire_worths(works, row):
    check_row(works, row)
    worths = list(row)
    for kind, legs in works[1]:
        worths.append(gate_worth(kind, [worths[leg] for leg in legs]))
    return worths


def outputs_at(works, row):
    worths = wire_worths(works, row)
    return [worths[wire] for wire in works[2]]


def every_row(works):
    rows = [[]]
    for place in range(works[0]):
        rows = [[0] + row for row in rows] + [[1] + row for row in rows]
    return rows


def check_row(works, row):
    if len(row) != works[0]:
        raise NoRow("a row has one worth for each input")
    if not all([worth in (0, 1) for worth in row]):
        raise NoRow("a worth is 0 or 1")


# A worth may stand for many rows at once, by one bit for each; then ones has the bits of all these rows.
def gate_worth(kind, worths, ones=1):
    if kind == "not":
        return ones ^ worths[0]
    if kind == "choose":
        return (worths[0] & worths[1]) | ((ones ^ worths[0]) & worths[2])
    # A constant has no legs, so what it begins with is its worth.
    told = ones if kind in ("and", "one") else 0
    for worth in worths:
        if kind == "and":
            told = told & worth
        elif kind == "or":
            told = told | worth
        else:
            told = told ^ worth
    return told
