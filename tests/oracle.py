"""What the document says, reckoned a second time in the plainest way, and works to ask it of."""

import itertools
import random

ANY_LEGS = {"and": (2, 4), "or": (2, 4), "odd": (2, 4), "not": (1, 1), "choose": (3, 3), "zero": (0, 0), "one": (0, 0)}

# Six inputs and twenty gates of four legs each, the most that is promised.
GREAT_ODD = (
    6,
    [("odd", (0, 1, 2, 3)), ("odd", (4, 5, 6, 6))]
    + [("odd", (wire, wire + 1, 0, 5)) for wire in range(6, 23)]
    + [("and", (24, 23, 22, 21))],
    [25],
)
GREAT_MIXED = (
    6,
    [("odd", (0, 1, 2, 3)), ("or", (4, 5, 6, 6))]
    + [(("and", "or", "odd")[wire % 3], (wire, wire + 1, 0, 5)) for wire in range(6, 24)],
    [25, 20],
)


def gate(kind, worths):
    return {
        "and": lambda: int(all(worth == 1 for worth in worths)),
        "or": lambda: int(any(worth == 1 for worth in worths)),
        "odd": lambda: int(list(worths).count(1) in (1, 3)),
        "not": lambda: {0: 1, 1: 0}[worths[0]],
        "choose": lambda: worths[1] if worths[0] == 1 else worths[2],
        "zero": lambda: 0,
        "one": lambda: 1,
    }[kind]()


def rows(works):
    return [list(row) for row in itertools.product((0, 1), repeat=works[0])]


def worths(works, faults, row):
    told = []
    for wire in range(works[0] + len(works[1])):
        if wire < works[0]:
            worth = row[wire]
        else:
            number = wire - works[0]
            kind, legs = works[1][number]
            read = [told[leg] for leg in legs]
            for fault in faults:
                if fault[0] == "leg" and fault[1] == number:
                    read[fault[2]] = fault[3]
            worth = gate(kind, read)
        for fault in faults:
            if fault[0] == "wire" and fault[1] == wire:
                worth = fault[2]
        told.append(worth)
    return told


def outputs(works, faults, row):
    told = worths(works, faults, row)
    return [told[wire] for wire in works[2]]


def first_row(works, faults):
    for row in rows(works):
        if outputs(works, faults, row) != outputs(works, [], row):
            return row
    return None


def pairs(works, faults, known):
    told = []
    for wire in range(works[0] + len(works[1])):
        if wire < works[0]:
            own = {(0, 0), (1, 1)} if known[wire] is None else {(known[wire], known[wire])}
        else:
            number = wire - works[0]
            kind, legs = works[1][number]
            read = [told[leg] for leg in legs]
            for fault in faults:
                if fault[0] == "leg" and fault[1] == number:
                    read[fault[2]] = {(right, fault[3]) for right, _ in read[fault[2]]}
            own = set()
            for choice in itertools.product(*read):
                own.add((gate(kind, [pair[0] for pair in choice]), gate(kind, [pair[1] for pair in choice])))
        for fault in faults:
            if fault[0] == "wire" and fault[1] == wire:
                own = {(right, fault[2]) for right, _ in own}
        told.append(own)
    return told


def alike(works, faults, known):
    told = pairs(works, faults, known)
    return all(told[wire] <= {(0, 0), (1, 1)} for wire in works[2])


def lets_by(works, faults, paper, known=None):
    known = [None] * works[0] if known is None else known
    if paper == ("same",):
        return alike(works, faults, known)
    word, split, low, high = paper
    if word != "split" or not 0 <= split < works[0] or known[split] is not None:
        return False
    below, above = list(known), list(known)
    below[split], above[split] = 0, 1
    return lets_by(works, faults, low, below) and lets_by(works, faults, high, above)


def paper(works, faults, known):
    if alike(works, faults, known):
        return ("same",)
    split = known.index(None)
    low = paper(works, faults, known[:split] + [0] + known[split + 1:])
    high = paper(works, faults, known[:split] + [1] + known[split + 1:])
    return ("split", split, low, high)


def faults(works):
    wires = [("wire", wire, worth) for wire in range(works[0] + len(works[1])) for worth in (0, 1)]
    legs = [
        ("leg", number, leg, worth)
        for number in range(len(works[1]))
        for leg in range(len(works[1][number][1]))
        for worth in (0, 1)
    ]
    return wires + legs


def some_works(seed, most_inputs=4, most_gates=8):
    chance = random.Random(seed)
    inputs = chance.randint(1, most_inputs)
    gates = []
    for number in range(chance.randint(0, most_gates)):
        kind = chance.choice(sorted(ANY_LEGS))
        count = chance.randint(*ANY_LEGS[kind])
        gates.append((kind, tuple(chance.randrange(inputs + number) for _ in range(count))))
    wires = inputs + len(gates)
    return (inputs, gates, [wires - 1] + [chance.randrange(wires) for _ in range(chance.randint(0, 2))])


def some_faults(seed, works):
    chance = random.Random(seed)
    taken = {}
    for fault in chance.sample(faults(works), min(len(faults(works)), chance.randint(0, 4))):
        taken[fault[:-1]] = fault
    return list(taken.values())


def parted(works, faults, others):
    for row in rows(works):
        if outputs(works, faults, row) != outputs(works, others, row):
            return row
    return None


def groups(works):
    told, never = [], []
    for fault in faults(works):
        if first_row(works, [fault]) is None:
            never.append(fault)
            continue
        for group in told:
            if parted(works, [fault], [group[0]]) is None:
                group.append(fault)
                break
        else:
            told.append([fault])
    return told + [never]


def finders(works, fault):
    return [row for row in rows(works) if outputs(works, [fault], row) != outputs(works, [], row)]


def all_found(works, taken):
    found = [finders(works, fault) for fault in faults(works)]
    return all(any(row in taken for row in by) for by in found if by)


def fewest(works):
    found = [by for by in (finders(works, fault) for fault in faults(works)) if by]
    for count in range(len(rows(works)) + 1):
        lists = [list(choice) for choice in itertools.combinations(rows(works), count)]
        enough = [choice for choice in lists if all(any(row in choice for row in by) for by in found)]
        if enough:
            return min(enough)


def need_lets_by(works, k, paper, taken=()):
    fault = paper[1]
    if fault not in faults(works):
        return False
    found = finders(works, fault)
    if found == [] or any(row in taken for row in found):
        return False
    if paper[0] == "none":
        return k == 0
    if k < 1 or len(found) != len(paper[2]):
        return False
    return all(need_lets_by(works, k - 1, inner, list(taken) + [row]) for row, inner in zip(found, paper[2]))


WELL = ("well",)


def answer(works, name, row):
    return outputs(works, [] if name == WELL else [name], row)


def fitting(works, answers):
    return [
        name for name in [WELL] + faults(works) if all(answer(works, name, row) == told for row, told in answers)
    ]


def greatest_left(works, answers, row):
    told = [answer(works, name, row) for name in fitting(works, answers)]
    return max(told.count(one) for one in told)


def next_row(works, answers):
    fit = fitting(works, answers)
    if len(fit) < 2:
        return None
    left = [greatest_left(works, answers, row) for row in rows(works)]
    return None if min(left) == len(fit) else rows(works)[left.index(min(left))]


def constant(works, wire):
    return wire >= works[0] and works[1][wire - works[0]][0] in ("zero", "one")


def spare(works, fault):
    wire = fault[1] if fault[0] == "wire" else works[1][fault[1]][1][fault[2]]
    return not constant(works, wire) and first_row(works, [fault]) is None


def bare(works):
    read = set(works[2]).union(*[legs for _, legs in works[1]])
    if any(works[0] + number not in read for number in range(len(works[1]))):
        return False
    return not any(spare(works, fault) for fault in faults(works) if fault[0] == "leg" or fault[1] >= works[0])


def worker_gates(works):
    return [kind for kind, _ in works[1] if kind not in ("zero", "one")]


def rich_works(seed, inputs=6, count=20):
    """Works whose gates read mostly what stands shortly ahead of them, so that most of them do some work."""
    chance = random.Random(seed)
    gates = []
    for number in range(count):
        kind = chance.choice(("and", "or", "odd", "not", "choose", "and", "or", "choose",
                              chance.choice(sorted(ANY_LEGS))))
        legs = chance.randint(*ANY_LEGS[kind])
        wires = inputs + number
        near = [chance.randrange(max(0, wires - 8), wires) for _ in range(legs)]
        gates.append((kind, tuple(chance.choice((wire, wire, chance.randrange(wires))) for wire in near)))
    return (inputs, gates, list(range(inputs + count - 4, inputs + count)))
