"""Promises 16 to 18: result, top, would."""

import unittest

from asking import MIXED, ONE_GROUP, ask, ask_last, look

ROWS = [
    [1, 620], [1, 0], [1000, -20000], [1, 20000], [2, 620, 2, 0], [3, 620, 1, -100], [7, 619, 9, 621],
    [1, -50, 2, 170, 3, 420], [997, 620, 991, 0, 983, -50, 977, 421],
]


class ResultTest(unittest.TestCase):
    def test_one_to_four_outcomes_as_entered(self):
        row = [5, 20, 7, -50, 1, 0, 1000, -130]
        for length in (2, 4, 6, 8):
            self.assertEqual(ask_last(("enter", 8, 3, row[:length]), ("result", 8)), [0, 1, 3] + row[:length])

    def test_nothing_is_reduced_ordered_or_put_together(self):
        for row in ([4, 100], [2, 50, 4, 40], [1, 90, 1, 90], [1, -10, 1, 20, 1, -10], [10, 0, 10, 0, 10, 0, 10, 0]):
            self.assertEqual(ask_last(("enter", 1, 0, row), ("result", 1)), [0, 1, 0] + row)

    def test_ends_of_the_ranges(self):
        for table in (1, 99):
            for group in (0, 9):
                for row in ([1, -20000], [1000, 20000], [1000, -20000, 1, 20000]):
                    self.assertEqual(ask_last(("enter", table, group, row), ("result", table)), [0, 1, group] + row)

    def test_a_played_board(self):
        self.assertEqual(ask_last(("play", 1, 6, 4, 3, 0, 0, 0, 10), ("result", 1)), [0, 1, 6, 1, 420])
        self.assertEqual(ask_last(("play", 1, 6, 4, 3, 0, 1, 2, 10), ("result", 1)), [0, 1, 6, 1, -620])
        self.assertEqual(ask_last(("play", 1, 6, 4, 3, 1, 3, 0, 9), ("result", 1)), [0, 1, 6, 1, 100])

    def test_a_passed_board(self):
        for group in range(10):
            self.assertEqual(ask_last(("pass", 1, group), ("result", 1)), [0, 1, group, 1, 0])

    def test_an_artificial_entry(self):
        for north_south, east_west in ((60, 40), (0, 100), (100, 0), (0, 0), (100, 100), (33, 30)):
            self.assertEqual(
                ask_last(("art", 1, north_south, east_west), ("result", 1)), [0, 0, north_south, east_west],
            )

    def test_of_its_own_table(self):
        self.assertEqual(
            ask(*MIXED, *[("result", table) for table in (50, 40, 30, 20, 10)])[5:],
            [[0, 0, 33, 67], [0, 0, 60, 30], [0, 1, 7, 1, 0], [0, 1, 2, 1, 620], [0, 1, 2, 3, 620, 1, -100]],
        )

    def test_entered_anew(self):
        answer = ask(
            ("enter", 1, 5, [2, 70, 3, 80]), ("result", 1), ("art", 1, 40, 50), ("result", 1),
            ("pass", 1, 4), ("result", 1), ("enter", 1, 6, [9, -10]), ("result", 1),
        )
        self.assertEqual(answer[1::2], [[0, 1, 5, 2, 70, 3, 80], [0, 0, 40, 50], [0, 1, 4, 1, 0], [0, 1, 6, 9, -10]])

    def test_a_refused_entry_is_not_made(self):
        answer = ask(("enter", 1, 5, [2, 70]), ("enter", 1, 6, [0, 70]), ("art", 1, 50, 101), ("result", 1))
        self.assertEqual(answer, [[0], [-1], [-1], [0, 1, 5, 2, 70]])

    def test_no_entry(self):
        self.assertEqual(ask(("result", 1), ("result", 99)), [[-2], [-2]])
        self.assertEqual(ask_last(*MIXED, ("result", 11)), [-2])
        for table in (10, 20, 30, 40, 50):
            self.assertEqual(ask_last(*MIXED, ("remove", table), ("result", table)), [-2])


class TopTest(unittest.TestCase):
    def test_an_empty_sheet(self):
        self.assertEqual(ask(("top",)), [[0, 0, 0]])
        self.assertEqual(ask_last(("pass", 1, 0), ("remove", 1), ("top",)), [0, 0, 0])

    def test_one_entry_alone(self):
        for entry in (("enter", 1, 0, [1, 50]), ("play", 99, 9, 1, 0, 0, 0, 0, 7), ("pass", 50, 3), ("art", 7, 0, 0)):
            self.assertEqual(ask_last(entry, ("top",)), [0, 1, 0])

    def test_real_and_artificial_entries_of_all_groups_count(self):
        for length in range(1, 6):
            self.assertEqual(ask_last(*MIXED[:length], ("top",)), [0, length, 2 * (length - 1)])

    def test_up_to_sixty_entries(self):
        calls = []
        for table in range(1, 62):
            calls += [("pass", table, table % 10), ("top",)]
        answer = ask(*calls)[1::2]
        self.assertEqual(answer, [[0, count, 2 * count - 2] for count in range(1, 61)] + [[0, 60, 118]])

    def test_entered_anew_and_removed(self):
        answer = ask(*MIXED, ("pass", 40, 0), ("top",), ("remove", 10), ("top",), ("remove", 10), ("top",))
        self.assertEqual([answer[6], answer[8], answer[10]], [[0, 5, 8], [0, 4, 6], [0, 4, 6]])


class WouldTest(unittest.TestCase):
    def test_one_group(self):
        for table, row, expected in (
            (3, [1, 450], [6, 1]), (3, [1, 420], [4, 1]), (3, [1, 200], [2, 1]), (3, [1, 170], [1, 1]),
            (3, [1, 0], [0, 1]), (1, [1, 170], [3, 1]), (1, [1, 430, 1, -60], [3, 1]), (1, [2, 420, 1, 100], [4, 1]),
            # 420 brings 4 and -50 brings 1, by 60 and 40.
            (4, [60, 420, 40, -50], [14, 5]),
        ):
            self.assertEqual(ask_last(*ONE_GROUP, ("would", table, row)), [0] + expected, (table, row))

    def test_several_groups_and_artificial_entries(self):
        # Group 2 has two of five entries: (m + 1) * 5 / 2 - 1.
        for row, expected in (([1, 630], [13, 2]), ([1, 620], [4, 1]), ([1, 0], [3, 2]), ([3, 620, 1, 0], [27, 8])):
            self.assertEqual(ask_last(*MIXED, ("would", 10, row)), [0] + expected)
        # Alone in its group it is in the middle, whatever its result.
        for row in ROWS:
            self.assertEqual(ask_last(*MIXED, ("would", 30, row)), [0, 4, 1])

    def test_weighted_others(self):
        # m is 2 of 4; then (3 + 2) of 4 and 1 of 4 by halves, 3 of 4.
        self.assertEqual(ask_last(*MIXED, ("would", 20, [1, 0])), [0, 11, 4])
        self.assertEqual(ask_last(*MIXED, ("would", 20, [1, 620, 1, -100])), [0, 27, 8])

    def test_what_mp_answers_if_it_is_entered(self):
        groups = {10: 2, 20: 2, 30: 7}
        for table, group in groups.items():
            for row in ROWS:
                answer = ask(*MIXED, ("would", table, row), ("enter", table, group, row), ("mp", table))
                self.assertEqual(answer[5], answer[7][:3], (table, row))
        for entry in ONE_GROUP:
            for row in ROWS:
                answer = ask(*ONE_GROUP, ("would", entry[1], row), ("enter", entry[1], 0, row), ("mp", entry[1]))
                self.assertEqual(answer[4], answer[6][:3], (entry, row))

    def test_with_the_result_that_it_has(self):
        for entries, tables in ((MIXED, (10, 20, 30)), (ONE_GROUP, (1, 2, 3, 4))):
            for table in tables:
                row = ask_last(*entries, ("result", table))[3:]
                answer = ask(*entries, ("would", table, row), ("mp", table))[len(entries):]
                self.assertEqual(answer[0], answer[1][:3])

    def test_one_entry_alone(self):
        for row in ROWS:
            self.assertEqual(ask_last(("enter", 1, 0, [1, 50]), ("would", 1, row)), [0, 0, 1])

    def test_nothing_is_changed(self):
        tables = (10, 20, 30, 40, 50, 60)
        seen = look(tables)
        behind = ask(*MIXED, *seen)[5:]
        for row in ROWS + [[0, 0], []]:
            asked = [("would", table, row) for table in tables]
            self.assertEqual(ask(*MIXED, *asked, *seen)[11:], behind)

    def test_asked_twice(self):
        answer = ask(*ONE_GROUP, ("would", 3, [1, 450]), ("would", 4, [1, 0]), ("would", 3, [1, 450]))
        self.assertEqual(answer[4:], [[0, 6, 1], [0, 2, 1], [0, 6, 1]])

    def test_sixty_entries(self):
        full = [("enter", table, 0, [1, 10 * table]) for table in range(1, 61)]
        answer = ask(*full, ("would", 1, [1, 20000]), ("would", 60, [1, -20000]), ("would", 30, [1, 305]))
        self.assertEqual(answer[60:], [[0, 118, 1], [0, 0, 1], [0, 58, 1]])

    def test_no_entry(self):
        self.assertEqual(ask(("would", 1, [1, 0]), ("would", 99, [1, 0])), [[-2], [-2]])
        self.assertEqual(ask_last(*MIXED, ("would", 11, [1, 0])), [-2])
        self.assertEqual(ask_last(*MIXED, ("remove", 10), ("would", 10, [1, 0])), [-2])
        self.assertEqual(ask_last(*MIXED, ("remove", 40), ("would", 40, [1, 0])), [-2])

    def test_no_entry_is_made(self):
        self.assertEqual(ask(("would", 1, [1, 0]), ("top",), ("result", 1)), [[-2], [0, 0, 0], [-2]])

    def test_artificial(self):
        self.assertEqual(ask(*MIXED, ("would", 40, [1, 0]), ("would", 50, [2, 620, 1, 0]))[5:], [[-3], [-3]])
        self.assertEqual(ask_last(("pass", 1, 0), ("art", 1, 50, 50), ("would", 1, [1, 0])), [-3])

    def test_out_of_form_ahead_of_the_others(self):
        for table in (10, 11, 40):
            for row in ([], [1], [0, 0], [1001, 0], [1, 20001], [1, -20001], [1, 0] * 5, [1, 0, 1]):
                self.assertEqual(ask_last(*MIXED, ("would", table, row)), [-1], (table, row))
        for table in (0, 100):
            self.assertEqual(ask_last(*MIXED, ("would", table, [1, 0])), [-1])


if __name__ == "__main__":
    unittest.main()
