"""Promises 12 to 15: imps, match, vp, ranks."""

import itertools
import unittest

from asking import FAR, MILLION, STEPS, ask, ask_last

NO_ROW = []


class ImpsTest(unittest.TestCase):
    def imps(self, difference):
        answer = ask_last(("imps", difference))
        self.assertEqual((answer[0], len(answer)), (0, 2))
        return answer[1]

    def test_each_step_and_the_numbers_beside_it(self):
        for at, step in enumerate(STEPS):
            for difference, expected in ((step - 1, at), (step, at + 1), (step + 1, at + 1)):
                self.assertEqual(self.imps(difference), expected)
                self.assertEqual(self.imps(-difference), -expected)

    def test_ordinary_differences(self):
        for difference, expected in ((0, 0), (1, 0), (10, 0), (30, 1), (140, 4), (420, 9), (680, 12), (980, 14),
                                     (1430, 16), (2220, 19), (7600, 24)):
            self.assertEqual(self.imps(difference), expected)
            self.assertEqual(self.imps(-difference), -expected)

    def test_ends_of_the_range(self):
        self.assertEqual(self.imps(MILLION), 24)
        self.assertEqual(self.imps(-MILLION), -24)

    def test_out_of_the_range(self):
        for difference in (MILLION + 1, -MILLION - 1, 2 * MILLION, FAR, -FAR):
            self.assertEqual(ask(("imps", difference)), [[-1]])


class MatchTest(unittest.TestCase):
    def match(self, *scores):
        return ask_last(("match", list(scores)))

    def test_no_boards(self):
        self.assertEqual(self.match(), [0, 0, 0, 0])

    def test_one_board(self):
        self.assertEqual(self.match(620, 170), [0, 10, 10, 0])
        self.assertEqual(self.match(170, 620), [0, -10, 0, 10])
        self.assertEqual(self.match(420, 420), [0, 0, 0, 0])
        self.assertEqual(self.match(420, 410), [0, 0, 0, 0])
        self.assertEqual(self.match(-100, -50), [0, -2, 0, 2])
        self.assertEqual(self.match(50, -50), [0, 3, 3, 0])

    def test_won_lost_and_drawn(self):
        # 10 and 3 won, 2 and 5 lost, one board flat.
        boards = [(620, 170), (-100, -50), (400, 400), (90, -30), (-620, -420)]
        for order in itertools.permutations(boards):
            self.assertEqual(self.match(*itertools.chain(*order)), [0, 6, 13, 7])
            turned = [(second, first) for first, second in order]
            self.assertEqual(self.match(*itertools.chain(*turned)), [0, -6, 7, 13])
        self.assertEqual(self.match(620, 170, 170, 620), [0, 0, 10, 10])

    def test_each_board_by_itself(self):
        # Ten differences of 10 bring nothing, though they are 100 together.
        self.assertEqual(self.match(*[10, 0] * 10), [0, 0, 0, 0])
        self.assertEqual(self.match(20, 0, 0, 19), [0, 1, 1, 0])

    def test_each_step_and_the_numbers_beside_it(self):
        for at, step in enumerate(STEPS):
            for difference, expected in ((step - 1, at), (step, at + 1), (step + 1, at + 1)):
                self.assertEqual(self.match(difference - 50, -50), [0, expected, expected, 0])
                self.assertEqual(self.match(-50, difference - 50), [0, -expected, 0, expected])

    def test_forty_boards(self):
        self.assertEqual(self.match(*[20000, -20000] * 40), [0, 960, 960, 0])
        self.assertEqual(self.match(*[-20000, 20000] * 40), [0, -960, 0, 960])
        self.assertEqual(self.match(*[0, 20, 50, 0] * 20), [0, 20, 40, 20])

    def test_each_length(self):
        for boards in range(41):
            self.assertEqual(self.match(*[20, 0] * boards), [0, boards, boards, 0])

    def test_other_lengths(self):
        for length in list(range(1, 80, 2)) + list(range(81, 101)):
            self.assertEqual(self.match(*[0] * length), [-1])


class VictoryPointsTest(unittest.TestCase):
    def vp(self, margin, steps):
        return ask_last(("vp", margin, list(steps)))

    def test_ordinary_margins(self):
        steps = [3, 7, 12, 20]
        for margin, reached in ((1, 0), (5, 1), (10, 2), (15, 3), (100, 4)):
            self.assertEqual(self.vp(margin, steps), [0, 4 + reached, 4 - reached])
            self.assertEqual(self.vp(-margin, steps), [0, 4 - reached, 4 + reached])
        self.assertEqual(self.vp(0, steps), [0, 4, 4])

    def test_at_and_beside_each_step(self):
        steps = [2, 6, 11, 17, 24, MILLION - 1]
        for at, step in enumerate(steps):
            for margin, reached in ((step - 1, at), (step, at + 1), (step + 1, at + 1)):
                self.assertEqual(self.vp(margin, steps), [0, 6 + reached, 6 - reached])
                self.assertEqual(self.vp(-margin, steps), [0, 6 - reached, 6 + reached])

    def test_a_step_of_zero(self):
        self.assertEqual(self.vp(0, [0]), [0, 1, 1])
        self.assertEqual(self.vp(0, [0, 5]), [0, 2, 2])
        self.assertEqual(self.vp(1, [0, 5]), [0, 3, 1])
        self.assertEqual(self.vp(-1, [0, 5]), [0, 1, 3])

    def test_no_steps(self):
        for margin in (0, 1, -1, MILLION, -MILLION):
            self.assertEqual(self.vp(margin, NO_ROW), [0, 0, 0])

    def test_one_step(self):
        self.assertEqual(self.vp(MILLION, [MILLION]), [0, 2, 0])
        self.assertEqual(self.vp(MILLION - 1, [MILLION]), [0, 1, 1])
        self.assertEqual(self.vp(-MILLION, [MILLION]), [0, 0, 2])

    def test_forty_steps(self):
        steps = [10 * at for at in range(1, 41)]
        for margin, reached in ((0, 0), (9, 0), (10, 1), (205, 20), (399, 39), (400, 40), (MILLION, 40)):
            self.assertEqual(self.vp(margin, steps), [0, 40 + reached, 40 - reached])
            self.assertEqual(self.vp(-margin, steps), [0, 40 - reached, 40 + reached])

    def test_each_length(self):
        for length in range(41):
            self.assertEqual(self.vp(MILLION, range(length)), [0, 2 * length, 0])
        for length in range(41, 101):
            self.assertEqual(self.vp(0, range(length)), [-1])

    def test_steps_that_do_not_rise(self):
        for margin in (-MILLION, -1, 0, 1, MILLION):
            for steps in ([5, 5], [5, 4], [0, 0], [MILLION, 0], [1, 2, 3, 3], [1, 2, 3, 2], [3, 2, 4, 5], [1, 1, 2, 3],
                          [1, 3, 3, 4], [1, 3, 2, 4]):
                self.assertEqual(self.vp(margin, steps), [-5], steps)

    def test_forty_steps_that_do_not_rise_in_one_place(self):
        for at in range(1, 40):
            for back in (1, 3):
                steps = [2 * place for place in range(1, 41)]
                steps[at] = max(steps[at] - 1 - back, 0)
                self.assertEqual(self.vp(7, steps), [-5], steps)
            steps = [2 * place for place in range(1, 41)]
            steps[at] -= 1
            self.assertEqual(self.vp(0, steps), [0, 40, 40])

    def test_out_of_form_ahead_of_not_rising(self):
        self.assertEqual(self.vp(MILLION + 1, [5, 5]), [-1])
        self.assertEqual(self.vp(-MILLION - 1, [5, 5]), [-1])
        self.assertEqual(self.vp(0, [5, 4, -1]), [-1])
        self.assertEqual(self.vp(0, [-1, 5, 4]), [-1])
        self.assertEqual(self.vp(0, [5, 4, MILLION + 1]), [-1])
        self.assertEqual(self.vp(0, [MILLION + 1, 4]), [-1])
        for length in (41, 42, 99, 100):
            self.assertEqual(self.vp(0, [5] * length), [-1])
        self.assertEqual(self.vp(0, [5] * 40), [-5])

    def test_a_refusal_changes_nothing(self):
        before = [("enter", 1, 0, [1, 50]), ("pass", 2, 0)]
        self.assertEqual(ask(*before, ("vp", 0, [2, 1]), ("sheet",))[2:], [[-5], [0, 1, 2, 1, 2, 0, 1]])


class RanksTest(unittest.TestCase):
    def ranks(self, *numbers):
        return ask_last(("ranks", list(numbers)))

    def test_no_numbers(self):
        self.assertEqual(self.ranks(), [0])

    def test_one_number(self):
        for number in (-MILLION, -1, 0, 1, MILLION):
            self.assertEqual(self.ranks(number), [0, 1, 1])

    def test_all_different(self):
        self.assertEqual(self.ranks(10, -5, 30, 0), [0, 2, 1, 4, 1, 1, 1, 3, 1])
        for order in itertools.permutations((40, 30, 20, 10)):
            expected = [0]
            for number in order:
                expected += [5 - number // 10, 1]
            self.assertEqual(self.ranks(*order), expected)

    def test_equal_numbers(self):
        self.assertEqual(self.ranks(7, 7), [0, 1, 2, 1, 2])
        self.assertEqual(self.ranks(5, 9, 5, 1, 9, 5), [0, 3, 3, 1, 2, 3, 3, 6, 1, 1, 2, 3, 3])
        self.assertEqual(self.ranks(-1, 1, -1), [0, 2, 2, 1, 1, 2, 2])

    def test_ends_of_the_range(self):
        self.assertEqual(self.ranks(-MILLION, MILLION, 0), [0, 3, 1, 1, 1, 2, 1])

    def test_sixty_numbers(self):
        self.assertEqual(self.ranks(*[-3] * 60), [0] + [1, 60] * 60)
        expected = [0]
        for number in range(60):
            expected += [60 - number, 1]
        self.assertEqual(self.ranks(*range(60)), expected)
        expected = [0]
        for number in range(60):
            expected += [1 + 20 * (2 - number % 3), 20]
        self.assertEqual(self.ranks(*[number % 3 for number in range(60)]), expected)

    def test_each_length(self):
        for length in range(61):
            self.assertEqual(self.ranks(*[4] * length), [0] + [1, length] * length)
        for length in range(61, 101):
            self.assertEqual(self.ranks(*[4] * length), [-1])


class WithoutASheetTest(unittest.TestCase):
    def test_the_sheet_is_neither_read_nor_changed(self):
        before = [("enter", 1, 0, [1, 50]), ("art", 2, 60, 40), ("pass", 3, 0)]
        asked = [("imps", 430), ("match", [50, 0]), ("vp", 5, [1, 9]), ("ranks", [2, 1])]
        alone = ask(*asked)
        self.assertEqual(alone, [[0, 10], [0, 2, 2, 0], [0, 3, 1], [0, 1, 1, 2, 1]])
        seen = [("sheet",), ("top",)]
        self.assertEqual(ask(*before, *asked, *seen)[3:], alone + ask(*before, *seen)[3:])


if __name__ == "__main__":
    unittest.main()
