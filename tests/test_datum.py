"""Promises 10 and 11: datum, butler."""

import itertools
import unittest

from asking import STEPS, ask, ask_last

PLAIN = [
    ("enter", 1, 4, [1, 420]),
    ("enter", 2, 4, [1, 450]),
    ("enter", 3, 4, [1, -50]),
    ("enter", 4, 4, [1, 170]),
]
# The means are 232, 420 and 25.
WEIGHTED = [
    ("enter", 1, 4, [60, 420, 40, -50]),
    ("play", 2, 4, 4, 3, 0, 0, 0, 10),
    ("enter", 3, 4, [3, 0, 1, 100]),
]
BESIDE = [
    ("enter", 51, 3, [1, 20000]),
    ("enter", 52, 5, [2, -20000, 3, -10000]),
    ("pass", 53, 0),
    ("art", 54, 100, 0),
    ("art", 55, 40, 40),
]


def entered(rows, group=0):
    return [("enter", 1 + at, group, row) for at, row in enumerate(rows)]


def datum(rows, ends=0):
    """The datum of a group that has these rows for results, or what is answered in its place."""
    return ask_last(*entered(rows), ("datum", 0, ends))


class DatumTest(unittest.TestCase):
    def test_plain_results(self):
        # 990 / 4 is 247.5; without the ends 590 / 2 is 295.
        self.assertEqual(ask(*PLAIN, ("datum", 4, 0), ("datum", 4, 1))[4:], [[0, 250], [0, 300]])

    def test_weighted_results(self):
        # 677 / 3 is 225 and two thirds; without the ends 232.
        self.assertEqual(ask(*WEIGHTED, ("datum", 4, 0), ("datum", 4, 1))[3:], [[0, 230], [0, 230]])
        self.assertEqual(datum([[3, 0, 1, 100]]), [0, 30])
        # (1 * 100 + 2 * 200 + 3 * 300 + 4 * 410) / 10 is 304.
        self.assertEqual(datum([[1, 100, 2, 200, 3, 300, 4, 410]]), [0, 300])

    def test_each_result_counts_once_whatever_its_weights(self):
        self.assertEqual(datum([[1000, 0], [1, 100]]), [0, 50])
        self.assertEqual(datum([[1000, 0, 1000, 0], [1, 100]]), [0, 50])

    def test_played_and_passed_boards(self):
        calls = [("play", 1, 2, 4, 3, 0, 1, 3, 10), ("pass", 2, 2), ("play", 3, 2, 4, 3, 0, 2, 0, 10)]
        # -620, 0 and 420.
        self.assertEqual(ask(*calls, ("datum", 2, 0), ("datum", 2, 1))[3:], [[0, -70], [0, 0]])

    def test_artificial_entries_and_other_groups_do_not_count(self):
        for entries in (PLAIN, WEIGHTED):
            for asked in (("datum", 4, 0), ("datum", 4, 1)):
                self.assertEqual(ask_last(*BESIDE, *entries, asked), ask_last(*entries, asked))
        self.assertEqual(ask_last(*BESIDE, *PLAIN, ("datum", 4, 2)), [-3])

    def test_each_group(self):
        calls = [("enter", 1 + group, group, [1, 100 * group]) for group in range(10)]
        self.assertEqual(
            ask(*calls, *[("datum", group, 0) for group in range(10)])[10:],
            [[0, 100 * group] for group in range(10)],
        )

    def test_a_group_without_real_entries(self):
        for ends in (0, 1, 30):
            for group in (0, 4, 9):
                self.assertEqual(ask(("datum", group, ends)), [[-3]])
        for group in (1, 2, 4, 9):
            self.assertEqual(ask_last(*BESIDE, ("datum", group, 0)), [-3])
        self.assertEqual(ask_last(("art", 1, 50, 50), ("datum", 0, 0)), [-3])
        self.assertEqual(ask_last(("pass", 1, 0), ("art", 1, 50, 50), ("datum", 0, 0)), [-3])
        self.assertEqual(ask_last(("pass", 1, 0), ("remove", 1), ("datum", 0, 0)), [-3])
        self.assertEqual(ask_last(("pass", 1, 0), ("pass", 1, 3), ("datum", 0, 0)), [-3])

    def test_just_twice_k_and_one_more(self):
        for ends in range(0, 30):
            rows = [[1, 10 * at] for at in range(2 * ends + 1)]
            self.assertEqual(datum(rows, ends), [0, 10 * ends])
            self.assertEqual(datum(rows[1:], ends), [-3])
            if ends > 0:
                self.assertEqual(datum(rows[2:], ends), [-3])

    def test_sixty_entries(self):
        rows = [[1, 5 * at * at] for at in range(60)]
        # The two in the middle are 5 * 29 * 29 and 5 * 30 * 30: 8705 / 2 is 4352.5.
        self.assertEqual(datum(rows, 29), [0, 4350])
        self.assertEqual(datum(rows[1:], 29), [0, 4500])
        self.assertEqual(datum(rows[:59], 29), [0, 4210])
        self.assertEqual(datum(rows[2:], 29), [-3])
        self.assertEqual(datum(rows, 30), [-3])
        # All squares up to 59 * 59 are 70210 together: 351050 / 60 is 5850 and five sixths.
        self.assertEqual(datum(rows), [0, 5850])

    def test_the_least_and_the_greatest_are_left_out(self):
        rows = [[1, score] for score in (-9000, -100, 0, 30, 20000)]
        for order in itertools.permutations(rows):
            self.assertEqual([datum(order, ends) for ends in (0, 1, 2)], [[0, 2190], [0, -20], [0, 0]])

    def test_halves_away_from_zero_and_beside_them(self):
        for score, expected in (
            (0, 0), (1, 0), (4, 0), (5, 10), (6, 10), (9, 10), (10, 10), (11, 10), (14, 10), (15, 20), (16, 20),
            (24, 20), (25, 30), (245, 250), (19994, 19990), (19995, 20000), (20000, 20000),
        ):
            self.assertEqual(datum([[1, score]]), [0, expected])
            self.assertEqual(datum([[1, -score]]), [0, -expected])

    def test_fractions_beside_the_halves(self):
        for middle, below, above in ((5, 0, 10), (15, 10, 20), (19995, 19990, 20000)):
            for sign in (1, -1):
                low, high = [0, sign * below], [0, sign * above]
                near = sign * (middle - 1)
                far = sign * (middle + 1)
                at = sign * middle
                self.assertEqual(datum([[1, near, 1000, at, 1000, at, 1000, at]]), low)
                self.assertEqual(datum([[1, far, 1000, at, 1000, at, 1000, at]]), high)
                self.assertEqual(datum([[1, near, 1000, at, 1000, at, 1, far]]), high)
                self.assertEqual(datum([[1, near, 999, at], [1, far, 1000, at]]), low)
                self.assertEqual(datum([[1, near, 1000, at], [1, far, 999, at]]), high)
                self.assertEqual(datum([[1, near, 999, at], [1, far, 999, at]]), high)

    def test_a_sum_very_near_to_a_half(self):
        primes = (997, 991, 983, 977, 971, 967, 953, 947)
        product = 1
        for prime in primes:
            product *= prime
        # Over their primes these are a whole number and 1 / product, about 10 ** -24, together.
        parts = [pow(product // prime, -1, prime) for prime in primes]
        whole = sum(part * (product // prime) for part, prime in zip(parts, primes)) // product
        for sign, below, above in ((1, 0, 10), (-1, -10, 0)):
            rows = [[part, 5 * sign + 1, prime - part, 5 * sign] for part, prime in zip(parts, primes)]
            rows.append([1, 5 * sign - whole])
            self.assertEqual(datum(rows), [0, above])
            rows = [[part, 5 * sign - 1, prime - part, 5 * sign] for part, prime in zip(parts, primes)]
            rows.append([1, 5 * sign + whole])
            self.assertEqual(datum(rows), [0, below])

    def test_fractions_very_near_to_one_another_are_in_their_order(self):
        for sign in (1, -1):
            at = 5 * sign
            far_below = [1, at - 1, 999, at, 1000, at, 1000, at]
            below = [1, at - 1, 1000, at, 1000, at, 1000, at]
            above = [1, at + 1, 1000, at, 1000, at, 1000, at]
            far_above = [1, at + 1, 999, at, 1000, at, 1000, at]
            for order in itertools.permutations((far_below, below, above, far_above)):
                # The two in the middle lie as far below as above; one of the outer two in the place of one would not.
                self.assertEqual(datum(order, 1), [0, 10 * sign])
            for order in itertools.permutations((below, [1, at], far_below)):
                self.assertEqual(datum(order, 1), [0, 0 if sign == 1 else -10])
            for order in itertools.permutations((above, [1, at], far_above)):
                self.assertEqual(datum(order, 1), [0, 10 if sign == 1 else 0])

    def test_equal_means(self):
        same = [[1, 40], [2, 30, 2, 50], [7, 40], [1000, 0, 1000, 80]]
        for order in itertools.permutations(same):
            self.assertEqual([datum(order, ends) for ends in (0, 1, 2)], [[0, 40], [0, 40], [-3]])
        self.assertEqual(datum(same + [[1, 20000]], 1), [0, 40])
        self.assertEqual(datum(same + [[1, 20000], [1, 20000]], 1), [0, 5030])

    def test_means_are_put_in_order_and_not_outcomes(self):
        rows = [[1, 20000, 1, -20000], [1, 30], [1, 40]]
        for order in itertools.permutations(rows):
            self.assertEqual(datum(order, 1), [0, 30])

    def test_means_are_not_rounded_ahead(self):
        # 4.5 and 4.5 and 6 are 15 together; each rounded by itself would bring another datum.
        self.assertEqual(datum([[1, 4, 1, 5], [1, 4, 1, 5], [1, 6]]), [0, 10])
        self.assertEqual(datum([[1, 4], [1, 4], [1, 5]]), [0, 0])

    def test_ends_of_the_scores(self):
        self.assertEqual(datum([[1000, 20000] * 4] * 60), [0, 20000])
        self.assertEqual(datum([[1000, -20000] * 4] * 60), [0, -20000])

    def test_changes_nothing(self):
        entries = BESIDE + WEIGHTED
        seen = [("sheet",), ("result", 1), ("cross", 3)]
        self.assertEqual(
            ask(*entries, ("datum", 4, 1), ("datum", 4, 9), *seen)[len(entries) + 2:],
            ask(*entries, *seen)[len(entries):],
        )


class ButlerTest(unittest.TestCase):
    def butler(self, entries, tables, ends=0):
        return ask(*entries, *[("butler", table, ends) for table in tables])[len(entries):]

    def test_plain_results(self):
        # The datum is 250: 170, 200, -300 and -80. Without the ends it is 300: 120, 150, -350 and -130.
        self.assertEqual(self.butler(PLAIN, [1, 2, 3, 4]), [[0, 5, 1], [0, 5, 1], [0, -7, 1], [0, -2, 1]])
        self.assertEqual(self.butler(PLAIN, [1, 2, 3, 4], 1), [[0, 3, 1], [0, 4, 1], [0, -8, 1], [0, -4, 1]])

    def test_weighted_results(self):
        # The datum is 230: 190 and -280 by 60 and 40; 190; -230 and -130 by 3 and 1.
        for ends in (0, 1):
            self.assertEqual(self.butler(WEIGHTED, [1, 2, 3], ends), [[0, 1, 5], [0, 5, 1], [0, -11, 2]])

    def test_artificial_entries_and_other_groups_do_not_count(self):
        for entries, tables in ((PLAIN, [1, 2, 3, 4]), (WEIGHTED, [1, 2, 3])):
            for ends in (0, 1):
                self.assertEqual(self.butler(BESIDE + entries, tables, ends), self.butler(entries, tables, ends))

    def test_up_to_four_outcomes(self):
        row = [5, 20, 7, -50, 11, 90, 13, -130]
        for length, fraction in ((2, [1, 1]), (4, [-3, 4]), (6, [24, 23]), (8, [-7, 9])):
            # Two others at 0 and one end left out make the datum 0.
            entries = entered([row[:length], [1, 0], [1, 0], [1, 0]])
            self.assertEqual(self.butler(entries, [1], 1), [[0] + fraction])

    def test_its_own_result_counts_in_the_datum(self):
        self.assertEqual(self.butler(entered([[1, 1000], [1, 0]]), [1, 2]), [[0, 11, 1], [0, -11, 1]])
        for row in ([1, 20000], [3, -20000], [1, 400, 1, 400]):
            self.assertEqual(self.butler(entered([row]), [1]), [[0, 0, 1]])
        # The datum is 50, and the outcomes lie 50 above and 50 below it.
        self.assertEqual(self.butler(entered([[1, 100, 1, 0]]), [1]), [[0, 0, 1]])
        # The datum is 280, and the outcomes lie 120 above and 280 below it.
        self.assertEqual(self.butler(entered([[7, 400, 3, 0]]), [1]), [[0, 0, 1]])
        # The datum is 320: 7 by 4, and -8 by 1.
        self.assertEqual(self.butler(entered([[4, 600, 5, 100]]), [1]), [[0, -2, 9]])

    def test_a_result_that_is_left_out_is_compared_too(self):
        entries = entered([[1, -4000], [1, 0], [1, 4000]])
        self.assertEqual(self.butler(entries, [1, 2, 3], 1), [[0, -24, 1], [0, 0, 1], [0, 24, 1]])

    def test_the_datum_is_rounded(self):
        # The mean is 15 and the datum 20: 15 above it brings nothing, 20 would bring 1.
        self.assertEqual(self.butler(entered([[1, 35], [1, -5]]), [1, 2]), [[0, 0, 1], [0, -1, 1]])

    def test_each_step_and_the_numbers_beside_it(self):
        for at, step in enumerate(STEPS):
            for score, expected in ((step - 1, at), (step, at + 1), (step + 1, at + 1)):
                entries = entered([[1, score], [1, -score]])
                self.assertEqual(self.butler(entries, [1, 2]), [[0, expected, 1], [0, -expected, 1]])

    def test_no_entry(self):
        self.assertEqual(ask(("butler", 1, 0), ("butler", 99, 30)), [[-2], [-2]])
        self.assertEqual(ask_last(*PLAIN, ("butler", 5, 0)), [-2])
        self.assertEqual(ask_last(("pass", 1, 0), ("pass", 2, 0), ("remove", 1), ("butler", 1, 0)), [-2])

    def test_artificial(self):
        for ends in (0, 1, 30):
            self.assertEqual(ask_last(("art", 1, 50, 50), ("butler", 1, ends)), [-3])
            self.assertEqual(ask_last(*PLAIN, ("art", 1, 50, 50), ("butler", 1, ends)), [-3])

    def test_no_datum(self):
        for ends in range(1, 31):
            entries = entered([[1, 10 * at] for at in range(2 * ends)])
            self.assertEqual(self.butler(entries, [1, 2 * ends], ends), [[-4], [-4]])
        for ends in range(0, 30):
            entries = entered([[1, 10 * at] for at in range(2 * ends + 1)])
            self.assertEqual(self.butler(entries, [1 + ends], ends), [[0, 0, 1]])
        self.assertEqual(self.butler(BESIDE + PLAIN, [1, 51, 53], 2), [[-4], [-4], [-4]])

    def test_refusals_in_their_order(self):
        # Without real entries no group has a datum, yet -2 and -3 are looked at first.
        sheet = [("art", 1, 50, 50), ("pass", 2, 0)]
        answer = ask(*sheet, ("butler", 3, 30), ("butler", 1, 30), ("butler", 2, 30), ("butler", 2, 0))
        self.assertEqual(answer[2:], [[-2], [-3], [-4], [0, 0, 1]])
        for table in (1, 2, 3):
            for ends in (-1, 31):
                self.assertEqual(ask_last(*sheet, ("butler", table, ends)), [-1])

    def test_changes_nothing(self):
        entries = BESIDE + WEIGHTED
        asked = [("butler", 1, 0), ("butler", 1, 9), ("butler", 54, 0), ("butler", 9, 0)]
        seen = [("sheet",), ("result", 1), ("datum", 4, 0)]
        self.assertEqual(
            ask(*entries, *asked, *seen)[len(entries) + 4:],
            ask(*entries, *seen)[len(entries):],
        )


if __name__ == "__main__":
    unittest.main()
