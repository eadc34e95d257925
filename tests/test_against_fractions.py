"""The promises 1 to 9 on many sheets, against a second reckoning with Python's own fractions."""

import random
import unittest
from fractions import Fraction

from asking import ask

STEPS = [
    20, 50, 90, 130, 170, 220, 270, 320, 370, 430, 500, 600,
    750, 900, 1100, 1300, 1500, 1750, 2000, 2250, 2500, 3000, 3500, 4000,
]
FEW_SCORES = (-620, -420, -100, -50, 0, 50, 110, 140, 420, 620)


def imps(difference):
    found = sum(1 for step in STEPS if step <= abs(difference))
    return -found if difference < 0 else found


def versus(difference):
    return 2 if difference > 0 else 1 if difference == 0 else 0


def chances(result):
    whole = sum(weight for weight, score in result)
    return [(Fraction(weight, whole), score) for weight, score in result]


def mean(measure, first, second):
    return sum(a * b * measure(x - y) for a, x in chances(first) for b, y in chances(second))


def half_up(fraction):
    return (fraction + Fraction(1, 2)).__floor__()


class Model:
    def __init__(self):
        self.sheet = {}

    def top(self):
        return 2 * len(self.sheet) - 2

    def rivals(self, table):
        group = self.sheet[table][0]
        return [entry[1] for other, entry in self.sheet.items() if other != table and entry[0] == group]

    def matchpoints(self, table):
        group, held = self.sheet[table]
        if group is None:
            return [Fraction(side * self.top(), 100) for side in held]
        rivals = self.rivals(table)
        points = sum((mean(versus, held, rival) for rival in rivals), Fraction(0))
        points = (points + 1) * len(self.sheet) / (len(rivals) + 1) - 1
        return [points, self.top() - points]

    def percentages(self, table):
        group, held = self.sheet[table]
        if group is None:
            return [100 * side for side in held]
        if self.top() == 0:
            return [5000, 5000]
        return [half_up(points / self.top() * 10000) for points in self.matchpoints(table)]

    def cross(self, table):
        rivals = self.rivals(table)
        if not rivals:
            return Fraction(0)
        return sum(mean(imps, self.sheet[table][1], rival) for rival in rivals) / len(rivals)

    def answer(self, call):
        name, table = call[0], call[1] if len(call) > 1 else None
        if name in ("enter", "pass", "art"):
            if table not in self.sheet and len(self.sheet) == 60:
                return [-6]
            if name == "art":
                self.sheet[table] = (None, call[2:])
            else:
                row = call[3] if name == "enter" else [1, 0]
                self.sheet[table] = (call[2], list(zip(row[::2], row[1::2])))
            return [0]
        if name == "sheet":
            told = [0]
            for held in sorted(self.sheet):
                points = self.matchpoints(held)[0]
                told += [held, points.numerator, points.denominator]
            return told
        if table not in self.sheet:
            return [-2]
        if name == "remove":
            del self.sheet[table]
            return [0]
        if name == "mp":
            return [0] + [number for side in self.matchpoints(table) for number in (side.numerator, side.denominator)]
        if name == "percent":
            return [0] + self.percentages(table)
        if self.sheet[table][0] is None:
            return [-3]
        points = self.cross(table)
        return [0, points.numerator, points.denominator]


def random_row(source):
    row = []
    for outcome in range(source.choice((1, 1, 1, 2, 3, 4))):
        weight = source.choice((1, 2, 50, source.randint(1, 1000)))
        row += [weight, source.choice(FEW_SCORES + (source.randint(-20000, 20000),))]
    return row


def random_call(source, tables, groups):
    name = source.choice(("enter",) * 6 + ("pass", "art", "remove", "mp", "mp", "percent", "percent", "cross", "cross",
                                            "sheet"))
    if name == "sheet":
        return (name,)
    table = source.randint(1, tables)
    if name == "enter":
        return (name, table, source.randrange(groups), random_row(source))
    if name == "pass":
        return (name, table, source.randrange(groups))
    if name == "art":
        return (name, table, source.randint(0, 100), source.randint(0, 100))
    return (name, table)


class AgainstFractionsTest(unittest.TestCase):
    def check(self, calls):
        model = Model()
        self.assertEqual(ask(*calls), [model.answer(call) for call in calls])

    def test_small_sheets(self):
        source = random.Random(1)
        for turn in range(150):
            tables = source.randint(1, 8)
            groups = source.randint(1, 3)
            self.check([random_call(source, tables, groups) for step in range(40)])

    def test_large_sheets(self):
        source = random.Random(2)
        for groups in (1, 3, 10):
            fill = [("enter", table, source.randrange(groups), random_row(source)) for table in range(1, 55)]
            calls = [random_call(source, 99, groups) for step in range(40)]
            self.check(fill + [call for call in calls if call[0] != "sheet"] + [("sheet",)])


if __name__ == "__main__":
    unittest.main()
