"""What all tests share: calls told by name, and their answers taken apart."""

from boardscores.sheet import answers

PLACES = {
    "score": 0, "enter": 1, "play": 2, "pass": 3, "art": 4,
    "remove": 5, "mp": 6, "percent": 7, "sheet": 8, "cross": 9,
}
FAR = 10 ** 18

# For each call the range of each plain argument, and a row that is as told if the call has one.
FORMS = {
    "score": ([(1, 7), (0, 4), (0, 2), (0, 1), (0, 13)], None),
    "enter": ([(1, 99), (0, 9)], [1, 420]),
    "play": ([(1, 99), (0, 9), (1, 7), (0, 4), (0, 2), (0, 3), (0, 3), (0, 13)], None),
    "pass": ([(1, 99), (0, 9)], None),
    "art": ([(1, 99), (0, 100), (0, 100)], None),
    "remove": ([(1, 99)], None),
    "mp": ([(1, 99)], None),
    "percent": ([(1, 99)], None),
    "cross": ([(1, 99)], None),
}


def flat(calls):
    """The calls as one list of numbers; a list within a call is a row."""
    numbers = []
    for call in calls:
        numbers.append(PLACES[call[0]])
        for part in call[1:]:
            if isinstance(part, list):
                numbers.append(len(part))
                numbers.extend(part)
            else:
                numbers.append(part)
    return numbers


def apart(told):
    """The answers that stand in one list, each as a list of its own."""
    found = []
    at = 0
    while at < len(told):
        length = told[at]
        if length < 1 or at + 1 + length > len(told):
            raise AssertionError("no answer of that length at %d in %r" % (at, told))
        found.append(told[at + 1:at + 1 + length])
        at += 1 + length
    return found


def ask(*calls):
    """What each of the calls answers, one behind another on a new sheet."""
    found = apart(answers(flat(calls)))
    if len(found) != len(calls):
        raise AssertionError("%d answers to %d calls" % (len(found), len(calls)))
    return found


def ask_last(*calls):
    """What the last of the calls answers."""
    return ask(*calls)[-1]


def look(tables):
    """Calls that show all that can be seen of these tables."""
    calls = [("sheet",)]
    for table in tables:
        calls += [("mp", table), ("percent", table), ("cross", table)]
    return calls
