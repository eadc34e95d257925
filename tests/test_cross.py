"""Promise 9: cross."""

import unittest

from asking import STEPS, ask, ask_last


class CrossTest(unittest.TestCase):
    def imps_of(self, difference):
        """The IMPs of a difference, between two tables alone."""
        half = difference // 2
        answer = ask(
            ("enter", 1, 0, [1, half]), ("enter", 2, 0, [1, half - difference]), ("cross", 1), ("cross", 2),
        )
        self.assertEqual(answer[3], [0, -answer[2][1], 1])
        self.assertEqual(answer[2][2], 1)
        return answer[2][1]

    def test_each_step_and_the_numbers_beside_it(self):
        for at, step in enumerate(STEPS):
            for difference, expected in ((step - 1, at), (step, at + 1), (step + 1, at + 1)):
                self.assertEqual(self.imps_of(difference), expected, difference)
                self.assertEqual(self.imps_of(-difference), -expected, -difference)

    def test_ends_of_the_scale(self):
        self.assertEqual(self.imps_of(0), 0)
        self.assertEqual(self.imps_of(1), 0)
        self.assertEqual(self.imps_of(5000), 24)
        self.assertEqual(self.imps_of(40000), 24)
        self.assertEqual(self.imps_of(-40000), -24)

    def test_no_entry(self):
        self.assertEqual(ask(("cross", 1)), [[-2]])
        self.assertEqual(ask(("pass", 2, 0), ("cross", 1), ("remove", 2), ("cross", 2)), [[0], [-2], [0], [-2]])

    def test_artificial(self):
        self.assertEqual(ask(("art", 1, 50, 50), ("cross", 1)), [[0], [-3]])
        self.assertEqual(ask_last(("pass", 1, 0), ("pass", 2, 0), ("art", 1, 50, 50), ("cross", 1)), [-3])

    def test_no_others_in_the_group(self):
        self.assertEqual(ask_last(("enter", 1, 0, [1, 500]), ("cross", 1)), [0, 0, 1])
        self.assertEqual(
            ask_last(("enter", 1, 0, [1, 500]), ("pass", 2, 1), ("art", 3, 50, 50), ("cross", 1)),
            [0, 0, 1],
        )

    def test_divided_by_the_number_of_others_of_the_group(self):
        entries = [
            ("enter", 1, 4, [1, 420]),
            ("enter", 2, 4, [1, -50]),
            ("enter", 3, 4, [1, 170]),
            ("enter", 4, 4, [1, 450]),
            ("enter", 5, 5, [1, 5000]),
            ("art", 6, 100, 0),
        ]
        # 470 brings 10, 250 brings 6, 30 brings 1, 220 brings 6, 500 brings 11, 280 brings 7.
        answer = ask(*entries, ("cross", 1), ("cross", 2), ("cross", 3), ("cross", 4), ("cross", 5))[6:]
        self.assertEqual(answer, [[0, 5, 1], [0, -9, 1], [0, -7, 3], [0, 19, 3], [0, 0, 1]])

    def test_weighted_results(self):
        entries = [("enter", 1, 0, [60, 420, 40, -50]), ("enter", 2, 0, [1, 420]), ("enter", 3, 0, [3, 0, 1, 100])]
        # 1 with 2: (60*0 - 40*10) / 100. 1 with 3: (60*3*9 + 60*8 - 40*3*2 - 40*4) / 400.
        # 3 with 2: (-3*9 - 8) / 4.
        answer = ask(*entries, ("cross", 1), ("cross", 2), ("cross", 3))[3:]
        self.assertEqual(answer, [[0, 1, 8], [0, 51, 8], [0, -13, 2]])

    def test_below_zero_in_lowest_terms(self):
        entries = [("enter", 1, 0, [4, 0, 2, -20]), ("enter", 2, 0, [6, 0])]
        self.assertEqual(ask(*entries, ("cross", 1), ("cross", 2))[2:], [[0, -1, 3], [0, 1, 3]])

    def test_means_that_cancel_are_nothing(self):
        entries = [("enter", 1, 0, [7, 20, 7, -20]), ("pass", 2, 0)]
        self.assertEqual(ask(*entries, ("cross", 1), ("cross", 2))[2:], [[0, 0, 1], [0, 0, 1]])

    def test_imps_of_the_scores_not_of_the_mean(self):
        # The mean score is 0 on both sides, yet the IMPs are not.
        entries = [("enter", 1, 0, [1, 30, 3, -10]), ("pass", 2, 0)]
        self.assertEqual(ask_last(*entries, ("cross", 1)), [0, 1, 4])

    def test_sixty_entries(self):
        full = [("enter", table, 0, [1, 0 if table < 60 else 4000]) for table in range(1, 61)]
        self.assertEqual(ask(*full, ("cross", 60), ("cross", 1))[60:], [[0, 24, 1], [0, -24, 59]])


if __name__ == "__main__":
    unittest.main()
