"""What all tests share: calls told by name, and their answers taken apart."""

from boardscores.sheet import answers

PLACES = {
    "score": 0, "enter": 1, "play": 2, "pass": 3, "art": 4,
    "remove": 5, "mp": 6, "percent": 7, "sheet": 8, "cross": 9,
    "datum": 10, "butler": 11, "imps": 12, "match": 13, "vp": 14,
    "ranks": 15, "result": 16, "top": 17, "would": 18,
}
FAR = 10 ** 18
MILLION = 10 ** 6

# For each call the range of each plain argument, and a row that is as told if the call has one.
FORMS = {
    "score": ([(1, 7), (0, 4), (0, 2), (0, 1), (0, 13)], None),
    "enter": ([(1, 99), (0, 9)], [1, 420]),
    "play": ([(1, 99), (0, 9), (1, 7), (0, 4), (0, 2), (0, 3), (0, 3), (0, 13)], None),
    "pass": ([(1, 99), (0, 9)], None),
    "art": ([(1, 99), (0, 100), (0, 100)], None),
    "remove": ([(1, 99)], None),
    "mp": ([(1, 99)], None),
    "percent": ([(1, 99)], None),
    "sheet": ([], None),
    "cross": ([(1, 99)], None),
    "datum": ([(0, 9), (0, 30)], None),
    "butler": ([(1, 99), (0, 30)], None),
    "imps": ([(-MILLION, MILLION)], None),
    "match": ([], [420, -50]),
    "vp": ([(-MILLION, MILLION)], [0, 10, 20]),
    "ranks": ([], [3, 1, 3]),
    "result": ([(1, 99)], None),
    "top": ([], None),
    "would": ([(1, 99)], [1, 420]),
}

# For each call with a row the lengths that it may have, and the ranges of its numbers, over and over.
ROWS = {
    "enter": ((2, 4, 6, 8), [(1, 1000), (-20000, 20000)]),
    "match": (tuple(range(0, 81, 2)), [(-20000, 20000)]),
    "vp": (tuple(range(41)), [(0, MILLION)]),
    "ranks": (tuple(range(61)), [(-MILLION, MILLION)]),
    "would": ((2, 4, 6, 8), [(1, 1000), (-20000, 20000)]),
}
STEPS = [
    20, 50, 90, 130, 170, 220, 270, 320, 370, 430, 500, 600,
    750, 900, 1100, 1300, 1500, 1750, 2000, 2250, 2500, 3000, 3500, 4000,
]

# Sheets that several tests ask about.
ONE_GROUP = [
    ("enter", 1, 0, [1, 420]),
    ("enter", 2, 0, [1, 420]),
    ("enter", 3, 0, [1, -50]),
    ("enter", 4, 0, [1, 170]),
]
MIXED = [
    ("enter", 10, 2, [3, 620, 1, -100]),
    ("play", 20, 2, 4, 3, 0, 0, 1, 10),
    ("pass", 30, 7),
    ("art", 40, 60, 30),
    ("art", 50, 33, 67),
]


def flat(calls):
    """The calls as one list of numbers; a list within a call is a row."""
    numbers = []
    for call in calls:
        numbers.append(PLACES[call[0]])
        for part in call[1:]:
            if isinstance(part, list):
                numbers.append(len(part))
                numbers.extend(part)
            else:
                numbers.append(part)
    return numbers


def apart(told):
    """The answers that stand in one list, each as a list of its own."""
    found = []
    at = 0
    while at < len(told):
        length = told[at]
        if length < 1 or at + 1 + length > len(told):
            raise AssertionError("no answer of that length at %d in %r" % (at, told))
        found.append(told[at + 1:at + 1 + length])
        at += 1 + length
    return found


def ask(*calls):
    """What each of the calls answers, one behind another on a new sheet."""
    found = apart(answers(flat(calls)))
    if len(found) != len(calls):
        raise AssertionError("%d answers to %d calls" % (len(found), len(calls)))
    return found


def ask_last(*calls):
    """What the last of the calls answers."""
    return ask(*calls)[-1]


def look(tables):
    """Calls that show all that can be seen of these tables."""
    calls = [("sheet",), ("top",)] + [("datum", group, 0) for group in range(10)]
    for table in tables:
        calls += [("mp", table), ("percent", table), ("cross", table), ("butler", table, 0), ("result", table)]
    return calls
