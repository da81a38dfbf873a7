"""What is seen of faults at the rows of a works, at all rows at once."""

from stuckwires.faults import every_fault, outputs_with
from stuckwires.works import every_row


# What is stuck is a dict from places to worths, as stuck_places of faults.py tells it; {} is a works without faults.
# Told is one number for each output: its bit numbered n, the lowest being 0, is the worth at the row numbered n.
def outputs_seen(works, stuck):
    rows = rows_at_once(works[0])
    ones = rows[1]
    stuck_at_once = dict([(place, worth * ones) for place, worth in stuck.items()])
    return outputs_with(works, stuck_at_once, rows[0], ones)


# It goes as every_row does: each new input stands ahead, 0 for the rows so far and 1 for the same rows once more.
def rows_at_once(inputs):
    worths = []
    ones = 1
    for place in range(inputs):
        # Times this number, the bits of the rows so far are those of the rows behind them.
        behind = ones + 1
        worths = [ones * behind] + [worth + worth * behind for worth in worths]
        ones = ones + ones * behind
    return (worths, ones)


def outputs_in(seen, number):
    return [(worth >> number) & 1 for worth in seen]


def seen_of_each(works):
    seen = {}
    for fault in every_fault(works):
        seen[fault] = outputs_seen(works, {fault[:-1]: fault[-1]})
    return seen


def first_unlike(works, stuck, others):
    numbers = unlike_numbers(outputs_seen(works, stuck), outputs_seen(works, others))
    return every_row(works)[numbers[0]] if len(numbers) > 0 else None


def unlike_numbers(seen, others):
    unlike = 0
    for worth, other in zip(seen, others):
        unlike = unlike | (worth ^ other)
    return [number for number in range(unlike.bit_length()) if (unlike >> number) & 1 == 1]


# Rows go by their numbers here, which are lighter to look up than lists; a fault that no row finds has no entry.
def finding_rows(works):
    right = outputs_seen(works, {})
    finding = {}
    for fault, seen in seen_of_each(works).items():
        numbers = unlike_numbers(seen, right)
        if len(numbers) > 0:
            finding[fault] = numbers
    return finding
