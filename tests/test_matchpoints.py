"""Promises 6 to 8: mp, percent, sheet."""

import unittest

from asking import MIXED, ONE_GROUP, ask, ask_last


def asked_of_all(call, tables, *entries):
    """What a call answers for each of the tables, behind these entries."""
    return ask(*entries, *[(call, table) for table in tables])[len(entries):]


TWO_GROUPS = [
    ("enter", 1, 0, [1, 100]),
    ("enter", 2, 0, [1, 50]),
    ("enter", 3, 0, [1, 50]),
    ("enter", 4, 1, [1, 100]),
    ("enter", 5, 1, [1, 0]),
]
WEIGHTED = [
    ("enter", 1, 0, [60, 420, 40, -50]),
    ("enter", 2, 0, [1, 420]),
]


class NoEntryTest(unittest.TestCase):
    def test_no_entry(self):
        for call in ("mp", "percent"):
            self.assertEqual(ask((call, 1)), [[-2]])
            self.assertEqual(ask(("pass", 2, 0), (call, 1), (call, 3)), [[0], [-2], [-2]])

    def test_removed(self):
        for call in ("mp", "percent"):
            self.assertEqual(ask_last(("pass", 2, 0), ("pass", 3, 0), ("remove", 2), (call, 2)), [-2])


class MatchpointsTest(unittest.TestCase):
    def test_one_group(self):
        self.assertEqual(
            asked_of_all("mp", [1, 2, 3, 4], *ONE_GROUP),
            [[0, 5, 1, 1, 1], [0, 5, 1, 1, 1], [0, 0, 1, 6, 1], [0, 2, 1, 4, 1]],
        )

    def test_small_groups_are_stretched(self):
        self.assertEqual(
            asked_of_all("mp", [1, 2, 3, 4, 5], *TWO_GROUPS),
            [[0, 22, 3, 2, 3], [0, 7, 3, 17, 3], [0, 7, 3, 17, 3], [0, 13, 2, 3, 2], [0, 3, 2, 13, 2]],
        )

    def test_weighted_results(self):
        self.assertEqual(asked_of_all("mp", [1, 2], *WEIGHTED), [[0, 3, 5, 7, 5], [0, 7, 5, 3, 5]])

    def test_both_results_weighted(self):
        entries = [("enter", 1, 0, [2, 100, 1, 50]), ("enter", 2, 0, [2, 50, 3, 100])]
        # 100-50: 2*2*2 = 8, 100-100: 2*3*1 = 6, 50-50: 1*2*1 = 2, 50-100: 0; 16 of 15.
        self.assertEqual(asked_of_all("mp", [1, 2], *entries), [[0, 16, 15, 14, 15], [0, 14, 15, 16, 15]])

    def test_real_and_artificial_entries(self):
        # N is 5 and the top 8.
        self.assertEqual(
            asked_of_all("mp", [10, 20, 30, 40, 50], *MIXED),
            [
                [0, 27, 8, 37, 8],
                [0, 37, 8, 27, 8],
                [0, 4, 1, 4, 1],
                [0, 24, 5, 12, 5],
                [0, 66, 25, 134, 25],
            ],
        )

    def test_one_real_entry_of_its_group_is_in_the_middle(self):
        for others in range(0, 12):
            entries = [("enter", 1, 9, [1, -20000])]
            entries += [("enter", 2 + other, other % 3, [1, 10]) for other in range(others)]
            self.assertEqual(ask_last(*entries, ("mp", 1)), [0, others, 1, others, 1])

    def test_alone(self):
        self.assertEqual(ask_last(("enter", 1, 0, [1, 500]), ("mp", 1)), [0, 0, 1, 0, 1])
        self.assertEqual(ask_last(("art", 99, 60, 40), ("mp", 99)), [0, 0, 1, 0, 1])

    def test_artificial_per_cents_of_the_top(self):
        for percent in range(101):
            answer = ask_last(("art", 1, percent, 100 - percent), ("pass", 2, 0), ("pass", 3, 0), ("mp", 1))
            for above, below, side in ((answer[1], answer[2], percent), (answer[3], answer[4], 100 - percent)):
                self.assertEqual(above * 100, side * 4 * below)
                self.assertIn(below, (1, 5, 25))

    def test_sixty_entries(self):
        full = [("enter", table, 0, [1, 10 * (table % 7)]) for table in range(1, 61)]
        # Of 60 tables eight have 10 * 0, nine each have 10 to 40, eight each have 50 and 60.
        self.assertEqual(ask_last(*full, ("mp", 7)), [0, 7, 1, 111, 1])
        self.assertEqual(ask_last(*full, ("mp", 1)), [0, 16 + 8, 1, 94, 1])
        self.assertEqual(ask_last(*full, ("mp", 60)), [0, 2 * 35 + 8, 1, 40, 1])
        self.assertEqual(ask_last(*full, ("mp", 6)), [0, 111, 1, 7, 1])

    def test_versus_of_scores_below_zero(self):
        entries = [("enter", 1, 0, [1, -100]), ("enter", 2, 0, [1, -50]), ("enter", 3, 0, [1, 0])]
        self.assertEqual(
            asked_of_all("mp", [1, 2, 3], *entries),
            [[0, 0, 1, 4, 1], [0, 2, 1, 2, 1], [0, 4, 1, 0, 1]],
        )

    def test_equal_weights_of_any_size_are_like_one_outcome(self):
        for row in ([1000, 420], [7, 420, 7, 420], [1, 420, 2, 420, 3, 420, 1000, 420]):
            self.assertEqual(
                ask_last(("enter", 1, 0, row), *ONE_GROUP[1:], ("mp", 1)),
                [0, 5, 1, 1, 1],
            )

    def test_large_fractions_are_exact(self):
        entries = [("enter", 1, 0, [1, 0])]
        weights = (997, 991, 983, 977, 971, 967, 953, 947, 941, 937, 929, 919)
        entries += [("enter", 2 + at, 0, [1, -10, weight - 1, 10]) for at, weight in enumerate(weights)]
        above, below = 0, 1
        for weight in weights:
            above, below = above * weight + 2 * below, below * weight
        self.assertGreater(below, 10 ** 35)
        self.assertEqual(ask_last(*entries, ("mp", 1)), [0, above, below, 24 * below - above, below])


class PercentTest(unittest.TestCase):
    def test_one_group(self):
        self.assertEqual(
            asked_of_all("percent", [1, 2, 3, 4], *ONE_GROUP),
            [[0, 8333, 1667], [0, 8333, 1667], [0, 0, 10000], [0, 3333, 6667]],
        )

    def test_several_groups(self):
        # 22/3 of 8, 7/3 of 8, 13/2 of 8, 3/2 of 8.
        self.assertEqual(
            asked_of_all("percent", [1, 2, 3, 4, 5], *TWO_GROUPS),
            [[0, 9167, 833], [0, 2917, 7083], [0, 2917, 7083], [0, 8125, 1875], [0, 1875, 8125]],
        )

    def test_weighted_results(self):
        self.assertEqual(asked_of_all("percent", [1, 2], *WEIGHTED), [[0, 3000, 7000], [0, 7000, 3000]])

    def test_real_and_artificial_entries(self):
        # 27/8 of 8 is 42.1875 per cent.
        self.assertEqual(
            asked_of_all("percent", [10, 20, 30, 40, 50], *MIXED),
            [[0, 4219, 5781], [0, 5781, 4219], [0, 5000, 5000], [0, 6000, 3000], [0, 3300, 6700]],
        )

    def test_a_top_of_zero(self):
        self.assertEqual(ask_last(("enter", 1, 0, [1, 500]), ("percent", 1)), [0, 5000, 5000])
        self.assertEqual(ask_last(("art", 1, 60, 20), ("percent", 1)), [0, 6000, 2000])

    def test_halves_are_rounded_up_for_each_side(self):
        # Equal in one of 10000: matchpoints 1/10000 of 2, so half a hundredth of a per cent.
        entries = [("enter", 1, 0, [1, 10, 99, 0]), ("enter", 2, 0, [1, 10, 99, 20])]
        self.assertEqual(asked_of_all("percent", [1, 2], *entries), [[0, 1, 10000], [0, 10000, 1]])

    def test_beside_the_halves(self):
        below = [("enter", 1, 0, [1, 10, 100, 0]), ("enter", 2, 0, [1, 10, 100, 20])]
        above = [("enter", 1, 0, [1, 10, 98, 0]), ("enter", 2, 0, [1, 10, 98, 20])]
        self.assertEqual(asked_of_all("percent", [1, 2], *below), [[0, 0, 10000], [0, 10000, 0]])
        self.assertEqual(asked_of_all("percent", [1, 2], *above), [[0, 1, 9999], [0, 9999, 1]])

    def test_artificial_per_cents(self):
        for percent in range(101):
            calls = [("art", 1, percent, 100 - percent), ("pass", 2, 0), ("pass", 3, 0), ("percent", 1)]
            self.assertEqual(ask_last(*calls), [0, 100 * percent, 10000 - 100 * percent])


class SheetTest(unittest.TestCase):
    def test_empty(self):
        self.assertEqual(ask(("sheet",)), [[0]])
        self.assertEqual(ask_last(("pass", 5, 0), ("remove", 5), ("sheet",)), [0])

    def test_one_entry(self):
        self.assertEqual(ask_last(("enter", 55, 3, [1, 100]), ("sheet",)), [0, 55, 0, 1])
        self.assertEqual(ask_last(("art", 55, 70, 30), ("sheet",)), [0, 55, 0, 1])

    def test_by_rising_tables_however_entered(self):
        expected = [0, 10, 27, 8, 20, 37, 8, 30, 4, 1, 40, 24, 5, 50, 66, 25]
        for turn in range(len(MIXED)):
            order = MIXED[turn:] + MIXED[:turn]
            self.assertEqual(ask_last(*order, ("sheet",)), expected)
            self.assertEqual(ask_last(*reversed(order), ("sheet",)), expected)

    def test_order_is_by_number(self):
        calls = [("pass", table, 0) for table in (99, 9, 10, 1, 2, 11)]
        self.assertEqual(ask_last(*calls, ("sheet",))[1::3], [1, 2, 9, 10, 11, 99])

    def test_a_table_entered_anew_keeps_its_place(self):
        calls = [("pass", table, 0) for table in (3, 2, 1)] + [("enter", 2, 0, [1, 50])]
        self.assertEqual(ask_last(*calls, ("sheet",)), [0, 1, 1, 1, 2, 4, 1, 3, 1, 1])

    def test_north_and_south_of_mp(self):
        for entries in (ONE_GROUP, TWO_GROUPS, WEIGHTED, MIXED):
            expected = [0]
            for entry in entries:
                expected += [entry[1]] + ask_last(*entries, ("mp", entry[1]))[1:3]
            self.assertEqual(ask_last(*entries, ("sheet",)), expected)


if __name__ == "__main__":
    unittest.main()
