"""The interface: one list of numbers in, one list of numbers out."""

import contextlib
import inspect
import io
import unittest

import boardscores.sheet
from asking import flat, look
from boardscores.sheet import answers

# Each of the calls, answered and, where it may be, refused.
CALLS = flat(
    [
        ("score", 4, 3, 0, 0, 10),
        ("score", 8, 3, 0, 0, 10),
        ("enter", 7, 2, [60, 420, 40, -50]),
        ("enter", 8, 2, []),
        ("enter", 8, 2, [1] * 100),
        ("play", 9, 2, 3, 4, 1, 3, 2, 9),
        ("pass", 5, 2),
        ("art", 6, 60, 40),
        ("art", 6, 101, 40),
        ("datum", 2, 1),
        ("butler", 7, 1),
        ("would", 7, [3, 50, 1, 170]),
        ("remove", 9),
        ("remove", 9),
        ("datum", 2, 1),
        ("butler", 7, 1),
        ("butler", 6, 0),
        ("would", 6, [1, 0]),
        ("would", 9, [1, 0]),
        ("would", 5, [1, 0, 1]),
        ("imps", -430),
        ("imps", 1000001),
        ("match", [420, -50, 0, 620]),
        ("match", [420]),
        ("vp", -7, [0, 7, 8]),
        ("vp", -7, [0, 8, 8]),
        ("vp", -7, [-1]),
        ("ranks", [3, -1, 3, 1]),
        ("ranks", [1] * 61),
        ("match", []),
        ("vp", 0, []),
        ("ranks", []),
    ]
    + look([5, 6, 7, 8, 9])
)


class InterfaceTest(unittest.TestCase):
    def test_counts_stand_ahead_of_the_answers(self):
        calls = [
            0, 4, 3, 0, 0, 10,
            1, 1, 0, 4, 3, 50, 1, 170,
            2, 2, 0, 1, 4, 0, 1, 0, 6,
            3, 3, 1,
            4, 4, 60, 40,
            5, 5,
            6, 1,
            7, 4,
            8,
            9, 2,
            9, 4,
            5, 0,
        ]
        self.assertEqual(
            answers(calls),
            [
                2, 0, 420,
                1, 0,
                2, 0, 50,
                1, 0,
                1, 0,
                1, -2,
                5, 0, 7, 2, 5, 2,
                3, 0, 6000, 4000,
                13, 0, 1, 7, 2, 2, 5, 2, 3, 3, 1, 4, 18, 5,
                3, 0, -3, 4,
                1, -3,
                1, -1,
            ],
        )

    def test_all_calls_mixed_on_one_sheet(self):
        calls = [
            17,
            2, 3, 5, 4, 3, 0, 0, 0, 10,
            1, 1, 5, 4, 60, 420, 40, -50,
            16, 1,
            14, 6, 3, 0, 5, 9,
            3, 2, 5,
            10, 5, 0,
            10, 5, 1,
            11, 1, 1,
            18, 2, 2, 7, 430,
            4, 8, 55, 45,
            16, 8,
            11, 8, 30,
            18, 8, 2, 1, 0,
            18, 1, 4, 1, 420, 1, 0,
            6, 1,
            12, -770,
            13, 4, 0, 620, 100, 50,
            9, 2,
            15, 5, 4, 9, 4, -4, 9,
            5, 3,
            0, 6, 4, 2, 1, 12,
            10, 5, 1,
            11, 2, 1,
            7, 2,
            8,
            14, 0, 2, 7, 7,
            13, 1, 8,
            15, 0,
            17,
        ]
        self.assertEqual(
            answers(calls),
            [
                3, 0, 0, 0,
                2, 0, 420,
                1, 0,
                7, 0, 1, 5, 60, 420, 40, -50,
                3, 0, 5, 1,
                1, 0,
                # The means are 420, 232 and 0: 652 / 3, then 232.
                2, 0, 220,
                2, 0, 230,
                # 190 and -280 by 60 and 40.
                3, 0, 1, 5,
                3, 0, 4, 1,
                1, 0,
                4, 0, 0, 55, 45,
                1, -3,
                1, -3,
                # m is 1/2 and 3/2: 3 * 4 / 3 - 1.
                3, 0, 3, 1,
                # m is 3/5 and 6/5: (14 / 5) * 4 / 3 - 1.
                5, 0, 41, 15, 49, 15,
                2, 0, -13,
                4, 0, -10, 2, 12,
                # -9 against 420; -9 and 2 by 60 and 40.
                3, 0, -34, 5,
                11, 0, 3, 2, 1, 2, 3, 2, 5, 1, 1, 2,
                1, 0,
                # 760 and 500, 750 and 100.
                2, 0, 2110,
                1, -3,
                1, -4,
                # m is 4/5: (9 / 5) * 3 / 2 - 1 is 17/10 of 4.
                3, 0, 4250, 5750,
                10, 0, 1, 23, 10, 2, 17, 10, 8, 11, 5,
                1, -5,
                1, -1,
                1, 0,
                3, 0, 3, 4,
            ],
        )

    def test_a_row_out_of_form_is_passed_over_whole(self):
        for ahead in ([1, 1, 0], [13], [14, 0], [15], [18, 1]):
            for length in (0, 1, 3, 5, 7, 9, 10, 61, 81, 99, 100):
                for number in (8, 0, -1, 10 ** 18):
                    calls = ahead + [length] + [number] * length + [8]
                    told = answers(calls)
                    self.assertEqual(told[-2:], [1, 0], (ahead, length, number))
                    self.assertEqual(told[0] + 3, len(told), (ahead, length, number))
                    if number == 10 ** 18 and length > 0:
                        self.assertEqual(told, [1, -1, 1, 0], (ahead, length, number))

    def test_one_call(self):
        self.assertEqual(answers([8]), [1, 0])

    def test_four_hundred_calls(self):
        self.assertEqual(answers([8] * 400), [1, 0] * 400)
        longest = [1, 1, 0, 100] + [7] * 100
        self.assertEqual(answers(longest * 150 + [8] * 250), [1, -1] * 150 + [1, 0] * 250)

    def test_what_is_handed_in_is_not_changed(self):
        calls = list(CALLS)
        told = answers(calls)
        self.assertEqual(calls, CALLS)
        self.assertIsNot(told, calls)
        told.append(1)
        self.assertEqual(calls, CALLS)

    def test_a_second_time_answers_like_the_first(self):
        first = answers(list(CALLS))
        answers([3, 1, 0, 3, 2, 0, 4, 3, 10, 20, 18, 1, 2, 1, 50, 14, 0, 2, 1, 2])
        self.assertEqual(answers(list(CALLS)), first)
        self.assertEqual(answers([8]), [1, 0])

    def test_what_was_given_back_may_be_changed(self):
        first = answers(list(CALLS))
        kept = list(first)
        first.clear()
        self.assertEqual(answers(list(CALLS)), kept)

    def test_whole_numbers_in_a_list(self):
        told = answers(list(CALLS))
        self.assertIs(type(told), list)
        self.assertEqual({type(number) for number in told}, {int})

    def test_nothing_is_printed(self):
        out, err = io.StringIO(), io.StringIO()
        with contextlib.redirect_stdout(out), contextlib.redirect_stderr(err):
            answers(list(CALLS))
        self.assertEqual((out.getvalue(), err.getvalue()), ("", ""))

    def test_names_and_arguments(self):
        self.assertEqual(list(inspect.signature(boardscores.sheet.answers).parameters), ["calls"])


if __name__ == "__main__":
    unittest.main()
