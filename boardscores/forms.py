"""The forms of the calls: how they stand in one list of numbers, and which numbers they may hold."""

# For each call the least and the greatest value of each of its plain arguments.
RANGES = {
    0: ((1, 7), (0, 4), (0, 2), (0, 1), (0, 13)),
    1: ((1, 99), (0, 9)),
    2: ((1, 99), (0, 9), (1, 7), (0, 4), (0, 2), (0, 3), (0, 3), (0, 13)),
    3: ((1, 99), (0, 9)),
    4: ((1, 99), (0, 100), (0, 100)),
    5: ((1, 99),),
    6: ((1, 99),),
    7: ((1, 99),),
    8: (),
    9: ((1, 99),),
}
WITH_ROW = (1,)
OUTCOME_LENGTHS = (2, 4, 6, 8)


def read_calls(calls):
    """The calls that stand in one list: of each its place, its plain arguments and its row, empty if it has none."""
    read = []
    at = 0
    while at < len(calls):
        place = calls[at]
        end = at + 1 + len(RANGES[place])
        plain = calls[at + 1:end]
        row = []
        if place in WITH_ROW:
            start = end + 1
            end = start + calls[start - 1]
            row = calls[start:end]
        read.append((place, plain, row))
        at = end
    return read


def within(number, least, most):
    """Whether a number is in its range."""
    return least <= number and number <= most


def plain_in_form(place, plain):
    """Whether each plain argument of a call is in its range."""
    return all([within(number, bounds[0], bounds[1]) for number, bounds in zip(plain, RANGES[place])])


def outcomes_in_form(row):
    """Whether a row is one to four outcomes, each its weight and then its score."""
    if len(row) not in OUTCOME_LENGTHS:
        return False
    for at in range(0, len(row), 2):
        if not (within(row[at], 1, 1000) and within(row[at + 1], -20000, 20000)):
            return False
    return True


def in_form(place, plain, row):
    """Whether a call's arguments and its row are as told; all else is looked at behind this."""
    return plain_in_form(place, plain) and (place not in WITH_ROW or outcomes_in_form(row))
