"""What is reckoned from a row of numbers alone, without a sheet: matches, victory points and ranks."""

from boardscores.scale import imps, steps_reached


def match_totals(row):
    """The IMPs won and the IMPs lost over the boards of a row, each board its score at one table, then at the other."""
    won = 0
    lost = 0
    for at in range(0, len(row), 2):
        gained = imps(row[at] - row[at + 1])
        if gained > 0:
            won += gained
        else:
            lost -= gained
    return (won, lost)


def rises(row):
    """Whether each number of a row is above the one before."""
    return all([row[at - 1] < row[at] for at in range(1, len(row))])


def victory_points(margin, steps):
    """The victory points of the one and of the other, for a margin of the one over the other."""
    middle = len(steps)
    moved = steps_reached(steps, margin)
    if margin > 0:
        return (middle + moved, middle - moved)
    if margin < 0:
        return (middle - moved, middle + moved)
    # A step of 0 is reached by a margin of 0 too, but moves nothing.
    return (middle, middle)


def places(row):
    """For each number of a row a pair: its place, the greatest number's being 1, and how many share it."""
    found = []
    for number in row:
        greater = len([other for other in row if other > number])
        found.append((greater + 1, row.count(number)))
    return found
