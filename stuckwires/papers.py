"""Pairs of right and stuck worths, and the papers that show by them that no row finds some faults."""

from stuckwires.faults import stuck_places
from stuckwires.works import gate_worth

# Kinds whose worth at many legs is their worth at the last leg and at what the legs ahead of it come to.
FOLDED_KINDS = ("and", "or", "odd")


def pairs_at(works, faults, known, wire):
    return every_pairs(works, stuck_places(works, faults), known)[wire]


def paper_shows(works, faults, paper):
    return is_let_by(works, stuck_places(works, faults), [None] * works[0], paper)


# No input is split twice on the way, so it goes no deeper than there are inputs, however deep the paper is.
def is_let_by(works, stuck, known, paper):
    if paper[0] == "same":
        return outputs_alike(works, stuck, known)
    place = paper[1]
    if not 0 <= place < works[0] or known[place] is not None:
        return False
    low = known[:place] + [0] + known[place + 1:]
    high = known[:place] + [1] + known[place + 1:]
    return is_let_by(works, stuck, low, paper[2]) and is_let_by(works, stuck, high, paper[3])


# What is stuck is a dict from places to worths, as stuck_places of faults.py tells it.
def every_pairs(works, stuck, known):
    pairs = []
    for wire, worth in enumerate(known):
        pairs.append(with_stuck(input_pairs(worth), stuck, ("wire", wire)))
    for gate, body in enumerate(works[1]):
        read = leg_pairs(stuck, gate, [pairs[leg] for leg in body[1]])
        told = gate_pairs(body[0], read)
        pairs.append(with_stuck(told, stuck, ("wire", works[0] + gate)))
    return pairs


def input_pairs(worth):
    if worth is None:
        return [(0, 0), (1, 1)]
    return [(worth, worth)]


def leg_pairs(stuck, gate, wires):
    return [with_stuck(pairs, stuck, ("leg", gate, leg)) for leg, pairs in enumerate(wires)]


def with_stuck(pairs, stuck, place):
    if place not in stuck:
        return pairs
    return sorted(set([(right, stuck[place]) for right, wrong in pairs]))


def gate_pairs(kind, legs):
    # Leg by leg at most 16 choices stand at once, where four legs together would make 256.
    if kind in FOLDED_KINDS and len(legs) > 2:
        ahead = gate_pairs(kind, legs[:-1])
        return gate_pairs(kind, [ahead, legs[-1]])
    return sorted(set([chosen_pair(kind, choice) for choice in every_choice(legs)]))


def every_choice(legs):
    choices = [[]]
    for pairs in legs:
        longer = []
        for choice in choices:
            longer.extend([choice + [pair] for pair in pairs])
        choices = longer
    return choices


def chosen_pair(kind, choice):
    right = gate_worth(kind, [pair[0] for pair in choice])
    wrong = gate_worth(kind, [pair[1] for pair in choice])
    return (right, wrong)


def outputs_alike(works, stuck, known):
    pairs = every_pairs(works, stuck, known)
    return all([are_alike(pairs[wire]) for wire in works[2]])


def are_alike(pairs):
    return all([right == wrong for right, wrong in pairs])
