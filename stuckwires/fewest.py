"""The fewest rows that find all faults that can be found, and papers that no fewer do."""

from stuckwires.errors import TooMany
from stuckwires.seen import finding_rows
from stuckwires.works import check_row, every_row

# With more inputs there are too many lists of rows to try.
MOST_INPUTS = 3


def finds_all(works, rows):
    for row in rows:
        check_row(works, row)
    taken = [number for number, row in enumerate(every_row(works)) if row in rows]
    return meets_each(taken, finding_rows(works))


def fewest_rows(works):
    check_inputs(works)
    rows = every_row(works)
    return [rows[number] for number in fewest_numbers(len(rows), finding_rows(works))]


def need_paper(works):
    check_inputs(works)
    finding = finding_rows(works)
    fewest = fewest_numbers(len(every_row(works)), finding)
    return need_behind(finding, [], len(fewest) - 1)


def need_shows(works, k, paper):
    return is_need_let_by(finding_rows(works), [], k, paper)


def check_inputs(works):
    if works[0] > MOST_INPUTS:
        raise TooMany("it is told of at most three inputs")


# From here on rows go by their numbers, and what finds each fault is a dict as finding_rows of seen.py tells it.
def meets_each(taken, finding):
    return all([meet(numbers, taken) for numbers in finding.values()])


def meet(numbers, others):
    return any([number in others for number in numbers])


# It comes to an end: all rows together find every fault that has an entry.
def fewest_numbers(count, finding):
    choices = [[]]
    enough = []
    while len(enough) == 0:
        choices = longer_choices(choices, count)
        enough = [choice for choice in choices if meets_each(choice, finding)]
    return enough[0]


# Rising choices in order become rising choices in order, so the first one that is enough is the first as lists.
def longer_choices(choices, count):
    longer = []
    for choice in choices:
        least = choice[-1] + 1 if len(choice) > 0 else 0
        longer.extend([choice + [number] for number in range(least, count)])
    return longer


# Any fault that is not found yet would do; one of few rows keeps the paper small.
def need_behind(finding, taken, k):
    left = [fault for fault in finding if not meet(finding[fault], taken)]
    fault = min(left, key=lambda one: len(finding[one]))
    if k == 0:
        return ("none", fault)
    papers = [need_behind(finding, taken + [number], k - 1) for number in finding[fault]]
    return ("of", fault, papers)


# Each step down takes a row that was not taken, so it goes no deeper than there are rows, however deep the paper is.
def is_need_let_by(finding, taken, k, paper):
    fault = paper[1]
    if fault not in finding or meet(finding[fault], taken):
        return False
    if paper[0] == "none":
        return k == 0
    numbers = finding[fault]
    if k < 1 or len(paper[2]) != len(numbers):
        return False
    for number, inner in zip(numbers, paper[2]):
        if not is_need_let_by(finding, taken + [number], k - 1, inner):
            return False
    return True
