"""What a contract brings to the side that plays it, and to north and south."""

TRICK_POINTS = (20, 20, 30, 30, 30)
NO_TRUMPS = 4
TIMES = (1, 2, 4)
NORTH_SOUTH = (0, 2)


def missed_points(missing, doubled, vulnerable):
    """What counts against the side for the tricks that are missing, at least one."""
    if doubled == 0:
        return missing * (100 if vulnerable == 1 else 50)
    if vulnerable == 1:
        points = 200 + 300 * (missing - 1)
    else:
        points = 100 + 200 * (min(missing, 3) - 1) + 300 * max(missing - 3, 0)
    return points * doubled


def contract_points(level, strain, doubled):
    """The points of the contract itself, without what comes to them."""
    points = level * TRICK_POINTS[strain]
    if strain == NO_TRUMPS:
        points += 10
    return points * TIMES[doubled]


def bonus_points(points, level, vulnerable):
    """What comes to the contract's points for their size and for the level."""
    bonus = 50
    if points >= 100:
        bonus = 500 if vulnerable == 1 else 300
    if level == 6:
        bonus += 750 if vulnerable == 1 else 500
    if level == 7:
        bonus += 1500 if vulnerable == 1 else 1000
    return bonus


def overtrick_points(strain, doubled, vulnerable):
    """What each trick above those needed brings."""
    if doubled == 0:
        return TRICK_POINTS[strain]
    return doubled * (200 if vulnerable == 1 else 100)


def contract_score(level, strain, doubled, vulnerable, tricks):
    """The score for the side that plays the contract; vulnerable is 1 if that side is, else 0."""
    over = tricks - (level + 6)
    if over < 0:
        return -missed_points(-over, doubled, vulnerable)
    points = contract_points(level, strain, doubled)
    score = points + bonus_points(points, level, vulnerable) + 50 * doubled
    return score + over * overtrick_points(strain, doubled, vulnerable)


def side_vulnerable(declarer, vulnerable):
    """1 if the declarer's side is vulnerable, else 0; of the board, 1 says north and south, 2 east and west, 3 all."""
    if declarer in NORTH_SOUTH:
        return 1 if vulnerable in (1, 3) else 0
    return 1 if vulnerable in (2, 3) else 0


def north_south_score(level, strain, doubled, declarer, vulnerable, tricks):
    """The contract's score for north and south, whoever of the four plays it."""
    score = contract_score(level, strain, doubled, side_vulnerable(declarer, vulnerable), tricks)
    return score if declarer in NORTH_SOUTH else -score
