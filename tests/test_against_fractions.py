"""All promises on many lines, with the calls mixed, against a second reckoning with Python's own fractions."""

import random
import unittest
from fractions import Fraction

from asking import FORMS, MILLION, ROWS, STEPS, ask
from test_score import made, missed

FEW_SCORES = (-620, -420, -100, -50, 0, 50, 110, 140, 420, 620)


def imps(difference):
    found = sum(1 for step in STEPS if step <= abs(difference))
    return -found if difference < 0 else found


def versus(difference):
    return 2 if difference > 0 else 1 if difference == 0 else 0


def chances(result):
    whole = sum(weight for weight, score in result)
    return [(Fraction(weight, whole), score) for weight, score in result]


def mean(measure, first, second):
    return sum(a * b * measure(x - y) for a, x in chances(first) for b, y in chances(second))


def told_fraction(fraction):
    fraction = Fraction(fraction)
    return [0, fraction.numerator, fraction.denominator]


def half_up(fraction):
    return (fraction + Fraction(1, 2)).__floor__()


def nearest_ten(fraction):
    """The multiple of ten nearest to a fraction: the one farther from 0 of two that are as near."""
    low = 10 * (fraction / 10).__floor__()
    return min((low, low + 10), key=lambda ten: (abs(ten - fraction), -abs(ten)))


def contract(level, strain, doubled, vulnerable, tricks):
    over = tricks - level - 6
    if over < 0:
        return missed(-over, doubled, vulnerable)
    return made(level, strain, doubled, vulnerable, over)


def pairs(row):
    return list(zip(row[::2], row[1::2]))


def victory_points(margin, steps):
    if any(second <= first for first, second in zip(steps, steps[1:])):
        return [-5]
    moved = sum(step <= abs(margin) for step in steps)
    moved = moved if margin > 0 else -moved if margin < 0 else 0
    return [0, len(steps) + moved, len(steps) - moved]


def match(row):
    boards = [imps(first - second) for first, second in pairs(row)]
    return [0, sum(boards), sum(board for board in boards if board > 0), -sum(board for board in boards if board < 0)]


def ranks(row):
    falling = sorted(row, reverse=True)
    told = [0]
    for number in row:
        told += [1 + falling.index(number), falling.count(number)]
    return told


class Model:
    def __init__(self):
        self.sheet = {}

    def top(self):
        return 2 * len(self.sheet) - 2

    def rivals(self, table):
        group = self.sheet[table][0]
        return [entry[1] for other, entry in self.sheet.items() if other != table and entry[0] == group]

    def matchpoints(self, table):
        group, held = self.sheet[table]
        if group is None:
            return [Fraction(side * self.top(), 100) for side in held]
        rivals = self.rivals(table)
        points = sum((mean(versus, held, rival) for rival in rivals), Fraction(0))
        points = (points + 1) * len(self.sheet) / (len(rivals) + 1) - 1
        return [points, self.top() - points]

    def percentages(self, table):
        group, held = self.sheet[table]
        if group is None:
            return [100 * side for side in held]
        if self.top() == 0:
            return [5000, 5000]
        return [half_up(points / self.top() * 10000) for points in self.matchpoints(table)]

    def cross(self, table):
        rivals = self.rivals(table)
        if not rivals:
            return Fraction(0)
        return sum(mean(imps, self.sheet[table][1], rival) for rival in rivals) / len(rivals)

    def datum(self, group, ends):
        means = sorted(sum(part * score for part, score in chances(entry[1]))
                       for entry in self.sheet.values() if entry[0] == group)
        for turn in range(ends):
            means = means[1:-1]
        return nearest_ten(sum(means) / len(means)) if means else None

    def butler(self, table, ends):
        group, held = self.sheet[table]
        datum = self.datum(group, ends)
        if datum is None:
            return [-4]
        return told_fraction(sum(part * imps(score - datum) for part, score in chances(held)))

    def would(self, table, row):
        kept = self.sheet[table]
        self.sheet[table] = (kept[0], pairs(row))
        points = self.matchpoints(table)[0]
        self.sheet[table] = kept
        return told_fraction(points)

    def result(self, table):
        group, held = self.sheet[table]
        if group is None:
            return [0, 0] + held
        return [0, 1, group] + [number for outcome in held for number in outcome]

    def without_a_table(self, name, call):
        if name == "score":
            return [0, contract(*call[1:])]
        if name == "imps":
            return [0, imps(call[1])]
        if name == "match":
            return match(call[1])
        if name == "vp":
            return victory_points(call[1], call[2])
        if name == "ranks":
            return ranks(call[1])
        if name == "top":
            return [0, len(self.sheet), max(self.top(), 0)]
        if name == "datum":
            datum = self.datum(call[1], call[2])
            return [-3] if datum is None else [0, datum]
        told = [0]
        for held in sorted(self.sheet):
            told += [held] + told_fraction(self.matchpoints(held)[0])[1:]
        return told

    def put(self, name, table, call):
        if table not in self.sheet and len(self.sheet) == 60:
            return [-6]
        if name == "art":
            self.sheet[table] = (None, list(call[2:]))
        elif name == "enter":
            self.sheet[table] = (call[2], pairs(call[3]))
        elif name == "pass":
            self.sheet[table] = (call[2], [(1, 0)])
        else:
            group, level, strain, doubled, declarer, vulnerable, tricks = call[2:]
            score = contract(level, strain, doubled, vulnerable >> declarer % 2 & 1, tricks)
            score = -score if declarer % 2 else score
            self.sheet[table] = (group, [(1, score)])
            return [0, score]
        return [0]

    def answer(self, call):
        name = call[0]
        if name in ("score", "sheet", "datum", "imps", "match", "vp", "ranks", "top"):
            return self.without_a_table(name, call)
        table = call[1]
        if name in ("enter", "play", "pass", "art"):
            return self.put(name, table, call)
        if table not in self.sheet:
            return [-2]
        if name == "remove":
            del self.sheet[table]
            return [0]
        if name == "mp":
            north_south, east_west = self.matchpoints(table)
            return told_fraction(north_south) + told_fraction(east_west)[1:]
        if name == "percent":
            return [0] + self.percentages(table)
        if name == "result":
            return self.result(table)
        if self.sheet[table][0] is None:
            return [-3]
        if name == "butler":
            return self.butler(table, call[2])
        if name == "would":
            return self.would(table, call[2])
        return told_fraction(self.cross(table))


def random_row(source):
    row = []
    for outcome in range(source.choice((1, 1, 1, 2, 3, 4))):
        weight = source.choice((1, 2, 50, source.randint(1, 1000)))
        row += [weight, source.choice(FEW_SCORES + (source.randint(-20000, 20000),))]
    return row


def random_numbers(source, name):
    """A row of match, vp or ranks, with small numbers and with great ones."""
    length = source.choice([kept for kept in ROWS[name][0] if kept < 7] + [ROWS[name][0][-1]])
    if name == "match":
        return [source.choice(FEW_SCORES + (source.randint(-20000, 20000),)) for at in range(length)]
    if name == "vp":
        steps = sorted(source.sample(range(source.choice((60, MILLION))), length))
        if length > 1 and source.random() < 0.2:
            steps[source.randrange(length)] = source.choice(steps)
        return steps
    most = source.choice((3, 50, MILLION))
    return [source.randint(-most, most) for at in range(length)]


def random_plain(source, name, tables, groups):
    """The plain arguments of a call, on a sheet with so many tables and groups."""
    if name == "vp":
        return [source.choice((0, 1, -1)) * source.choice((source.randint(0, 70), source.randint(0, MILLION)))]
    if name == "imps":
        return [source.choice((1, -1)) * source.choice((source.choice(STEPS), source.randint(0, 5000), MILLION))]
    if name == "score":
        return [source.randint(*bounds) for bounds in FORMS[name][0]]
    if name == "datum":
        return [source.randrange(groups), source.choice((0, 0, 1, 2, 20))]
    if name == "butler":
        return [source.randint(1, tables), source.choice((0, 0, 1, 2, 20))]
    plain = [source.randint(*bounds) for bounds in FORMS[name][0]]
    if len(plain) > 0:
        plain[0] = source.randint(1, tables)
    if name in ("enter", "play", "pass"):
        plain[1] = source.randrange(groups)
    return plain


def random_call(source, tables, groups):
    name = source.choice(list(FORMS) + ["enter"] * 6 + ["play"] * 2 + ["datum", "butler", "would", "result"])
    plain = random_plain(source, name, tables, groups)
    if name not in ROWS:
        return (name, *plain)
    row = random_row(source) if name in ("enter", "would") else random_numbers(source, name)
    return (name, *plain, row)


def spoiled(source, call):
    """The call with one number out of its range or with a row too long; None if it has neither."""
    name = call[0]
    plain, row = list(call[1:]), []
    if name in ROWS:
        row = list(plain.pop())
    ranges = FORMS[name][0]
    places = [(plain, at, ranges[at]) for at in range(len(plain))]
    if name in ROWS:
        bounds = ROWS[name][1]
        places += [(row, at, bounds[at % len(bounds)]) for at in range(len(row))]
    if places:
        numbers, at, (least, most) = source.choice(places)
        numbers[at] = source.choice((least - 1, most + 1))
    elif name in ROWS:
        row = [0] * 100
    else:
        return None
    return (name, *plain, row) if name in ROWS else (name, *plain)


class AgainstFractionsTest(unittest.TestCase):
    def check(self, source, calls):
        model = Model()
        asked, expected = [], []
        for call in calls:
            bad = spoiled(source, call) if source.random() < 0.1 else None
            asked.append(bad or call)
            expected.append([-1] if bad else model.answer(call))
        self.assertEqual(ask(*asked), expected)

    def test_small_sheets(self):
        source = random.Random(1)
        for turn in range(300):
            tables = source.randint(1, 8)
            groups = source.randint(1, 3)
            self.check(source, [random_call(source, tables, groups) for step in range(60)])

    def test_large_sheets(self):
        source = random.Random(2)
        for groups in (1, 3, 10):
            fill = [("enter", table, source.randrange(groups), random_row(source)) for table in range(1, 55)]
            calls = [random_call(source, 99, groups) for step in range(80)]
            self.check(source, fill + [call for call in calls if call[0] != "sheet"] + [("sheet",)])

    def test_data_and_butler_of_large_groups(self):
        source = random.Random(3)
        for turn in range(5):
            fill = [("enter", table, 0, random_row(source)) for table in range(1, 61)]
            asked = [("datum", 0, ends) for ends in range(31)]
            asked += [("butler", source.randint(1, 60), ends) for ends in range(31)]
            self.check(source, fill + asked)

    def test_each_call_is_among_them(self):
        source = random.Random(1)
        names = {random_call(source, 5, 2)[0] for turn in range(2000)}
        self.assertEqual(names, set(FORMS))


if __name__ == "__main__":
    unittest.main()
