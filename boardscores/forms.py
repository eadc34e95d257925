"""The forms of the calls: how they stand in one list of numbers, and which numbers they may hold."""

# For each call the least and the greatest value of each of its plain arguments.
RANGES = {
    0: ((1, 7), (0, 4), (0, 2), (0, 1), (0, 13)),
    1: ((1, 99), (0, 9)),
    2: ((1, 99), (0, 9), (1, 7), (0, 4), (0, 2), (0, 3), (0, 3), (0, 13)),
    3: ((1, 99), (0, 9)),
    4: ((1, 99), (0, 100), (0, 100)),
    5: ((1, 99),),
    6: ((1, 99),),
    7: ((1, 99),),
    8: (),
    9: ((1, 99),),
    10: ((0, 9), (0, 30)),
    11: ((1, 99), (0, 30)),
    12: ((-1000000, 1000000),),
    13: (),
    14: ((-1000000, 1000000),),
    15: (),
    16: ((1, 99),),
    17: (),
    18: ((1, 99),),
}
# For each call with a row: the fewest and the most parts of that row, and the ranges of the numbers of each part.
ROWS = {
    1: (1, 4, ((1, 1000), (-20000, 20000))),
    13: (0, 40, ((-20000, 20000), (-20000, 20000))),
    14: (0, 40, ((0, 1000000),)),
    15: (0, 60, ((-1000000, 1000000),)),
    18: (1, 4, ((1, 1000), (-20000, 20000))),
}


def read_calls(calls):
    """The calls that stand in one list: of each its place, its plain arguments and its row, empty if it has none."""
    read = []
    at = 0
    while at < len(calls):
        place = calls[at]
        end = at + 1 + len(RANGES[place])
        plain = calls[at + 1:end]
        row = []
        if place in ROWS:
            start = end + 1
            end = start + calls[start - 1]
            row = calls[start:end]
        read.append((place, plain, row))
        at = end
    return read


def within(number, least, most):
    """Whether a number is in its range."""
    return least <= number and number <= most


def all_within(numbers, ranges):
    """Whether each number is in the range that stands in its place."""
    return all([within(number, bounds[0], bounds[1]) for number, bounds in zip(numbers, ranges)])


def row_in_form(place, row):
    """Whether the row of a call is as long as told, and each of its numbers in its range."""
    fewest = ROWS[place][0]
    most = ROWS[place][1]
    ranges = ROWS[place][2]
    size = len(ranges)
    if len(row) % size != 0 or not within(len(row) // size, fewest, most):
        return False
    return all([all_within(row[at:at + size], ranges) for at in range(0, len(row), size)])


def in_form(place, plain, row):
    """Whether a call's arguments and its row are as told; all else is looked at behind this."""
    return all_within(plain, RANGES[place]) and (place not in ROWS or row_in_form(place, row))
