"""The interface: one list of numbers in, one list of numbers out."""

import contextlib
import inspect
import io
import unittest

import boardscores.sheet
from asking import flat, look
from boardscores.sheet import answers

CALLS = flat(
    [
        ("score", 4, 3, 0, 0, 10),
        ("enter", 7, 2, [60, 420, 40, -50]),
        ("enter", 8, 2, []),
        ("enter", 8, 2, [1] * 100),
        ("play", 9, 2, 3, 4, 1, 3, 2, 9),
        ("pass", 5, 2),
        ("art", 6, 60, 40),
        ("art", 6, 101, 40),
        ("remove", 9),
    ]
    + look([5, 6, 7, 8, 9])
)


class InterfaceTest(unittest.TestCase):
    def test_counts_stand_ahead_of_the_answers(self):
        calls = [
            0, 4, 3, 0, 0, 10,
            1, 1, 0, 4, 3, 50, 1, 170,
            2, 2, 0, 1, 4, 0, 1, 0, 6,
            3, 3, 1,
            4, 4, 60, 40,
            5, 5,
            6, 1,
            7, 4,
            8,
            9, 2,
            9, 4,
            5, 0,
        ]
        self.assertEqual(
            answers(calls),
            [
                2, 0, 420,
                1, 0,
                2, 0, 50,
                1, 0,
                1, 0,
                1, -2,
                5, 0, 7, 2, 5, 2,
                3, 0, 6000, 4000,
                13, 0, 1, 7, 2, 2, 5, 2, 3, 3, 1, 4, 18, 5,
                3, 0, -3, 4,
                1, -3,
                1, -1,
            ],
        )

    def test_a_row_out_of_form_is_passed_over_whole(self):
        for length in (0, 1, 3, 5, 7, 9, 10, 100):
            for number in (8, 0, -1, 10 ** 18):
                calls = [1, 1, 0, length] + [number] * length + [8]
                self.assertEqual(answers(calls), [1, -1, 1, 0], (length, number))

    def test_one_call(self):
        self.assertEqual(answers([8]), [1, 0])

    def test_four_hundred_calls(self):
        self.assertEqual(answers([8] * 400), [1, 0] * 400)
        longest = [1, 1, 0, 100] + [7] * 100
        self.assertEqual(answers(longest * 150 + [8] * 250), [1, -1] * 150 + [1, 0] * 250)

    def test_what_is_handed_in_is_not_changed(self):
        calls = list(CALLS)
        told = answers(calls)
        self.assertEqual(calls, CALLS)
        self.assertIsNot(told, calls)
        told.append(1)
        self.assertEqual(calls, CALLS)

    def test_a_second_time_answers_like_the_first(self):
        first = answers(list(CALLS))
        answers([3, 1, 0, 3, 2, 0, 4, 3, 10, 20])
        self.assertEqual(answers(list(CALLS)), first)
        self.assertEqual(answers([8]), [1, 0])

    def test_what_was_given_back_may_be_changed(self):
        first = answers(list(CALLS))
        kept = list(first)
        first.clear()
        self.assertEqual(answers(list(CALLS)), kept)

    def test_whole_numbers_in_a_list(self):
        told = answers(list(CALLS))
        self.assertIs(type(told), list)
        self.assertEqual({type(number) for number in told}, {int})

    def test_nothing_is_printed(self):
        out, err = io.StringIO(), io.StringIO()
        with contextlib.redirect_stdout(out), contextlib.redirect_stderr(err):
            answers(list(CALLS))
        self.assertEqual((out.getvalue(), err.getvalue()), ("", ""))

    def test_names_and_arguments(self):
        self.assertEqual(list(inspect.signature(boardscores.sheet.answers).parameters), ["calls"])


if __name__ == "__main__":
    unittest.main()
