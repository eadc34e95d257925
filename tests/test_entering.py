"""Promises 1 to 5: enter, play, pass, art, remove."""

import itertools
import unittest

from asking import ask, ask_last, look

SIXTY = [("enter", table, 0, [1, 10 * table]) for table in range(1, 61)]


class EnterTest(unittest.TestCase):
    def test_answers_zero_alone(self):
        for row in ([1, 0], [1, 0, 2, 10], [1, 0, 2, 10, 3, 20], [1, 0, 2, 10, 3, 20, 4, 30]):
            self.assertEqual(ask(("enter", 7, 3, row)), [[0]])

    def test_each_outcome_counts_by_its_weight(self):
        # Against 0 the outcomes bring 1, -2, 3 and -4 IMPs: 5/5, -9/12, 24/23 and -28/36.
        row = [5, 20, 7, -50, 11, 90, 13, -130]
        for length, fraction in ((2, [1, 1]), (4, [-3, 4]), (6, [24, 23]), (8, [-7, 9])):
            answer = ask_last(("enter", 1, 0, row[:length]), ("enter", 2, 0, [1, 0]), ("cross", 1))
            self.assertEqual(answer, [0] + fraction)

    def test_ends_of_the_ranges(self):
        answer = ask(
            ("enter", 1, 0, [1, -20000, 1000, 20000]),
            ("enter", 99, 9, [1000, -20000, 1, 20000]),
            ("enter", 98, 0, [1, 0]),
            ("sheet",),
            ("cross", 1),
            ("cross", 99),
        )
        self.assertEqual(answer[:3], [[0], [0], [0]])
        self.assertEqual(answer[3], [0, 1, 7001, 2002, 98, 1007, 2002, 99, 2, 1])
        self.assertEqual(answer[4], [0, 24 * 999, 1001])
        self.assertEqual(answer[5], [0, 0, 1])

    def test_groups_are_kept_apart(self):
        calls = [("enter", 10 + group, group, [1, 100 * group]) for group in range(10)]
        calls += [("enter", 50 + group, group, [1, 100 * group + 20]) for group in range(10)]
        for group in range(10):
            self.assertEqual(ask_last(*calls, ("cross", 10 + group)), [0, -1, 1])
            self.assertEqual(ask_last(*calls, ("cross", 50 + group)), [0, 1, 1])

    def test_entered_anew_takes_the_place_of_the_older_one(self):
        older = [("enter", 3, 4, [1, 50]), ("pass", 3, 4), ("art", 3, 70, 20), ("play", 3, 4, 1, 0, 0, 0, 0, 7)]
        newer = [
            ("enter", 3, 0, [1, 70, 2, -20]), ("pass", 3, 0), ("art", 3, 40, 60), ("play", 3, 0, 4, 2, 0, 0, 0, 10),
        ]
        other = ("enter", 5, 0, [1, 50])
        for first, second in itertools.product(older, newer):
            with self.subTest(first=first, second=second):
                seen = look([3, 5])
                self.assertEqual(
                    ask(first, other, second, *seen)[3:],
                    ask(second, other, *seen)[2:],
                )


class PlayTest(unittest.TestCase):
    def test_each_declarer_under_each_vulnerability(self):
        # Four spades, made: 420, vulnerable 620.
        expected = {
            0: [420, 620, 420, 620],
            1: [-420, -420, -620, -620],
            2: [420, 620, 420, 620],
            3: [-420, -420, -620, -620],
        }
        for declarer in range(4):
            for vulnerable in range(4):
                score = expected[declarer][vulnerable]
                with self.subTest(declarer=declarer, vulnerable=vulnerable):
                    answer = ask(
                        ("play", 8, 2, 4, 3, 0, declarer, vulnerable, 10),
                        ("enter", 9, 2, [1, score]),
                        ("mp", 8),
                        ("cross", 8),
                    )
                    self.assertEqual(answer, [[0, score], [0], [0, 1, 1, 1, 1], [0, 0, 1]])

    def test_missed_contracts(self):
        # Three no trumps doubled, two tricks missing: 300, vulnerable 500.
        expected = {0: [-300, -500, -300, -500], 1: [300, 300, 500, 500]}
        for declarer in range(4):
            for vulnerable in range(4):
                self.assertEqual(
                    ask(("play", 1, 0, 3, 4, 1, declarer, vulnerable, 7)),
                    [[0, expected[declarer % 2][vulnerable]]],
                )

    def test_the_score_is_that_of_score(self):
        ranges = (range(1, 8), range(5), range(3), range(2), range(0, 14))
        for level, strain, doubled, vulnerable, tricks in itertools.product(*ranges):
            both = 3 * vulnerable
            answer = ask(
                ("score", level, strain, doubled, vulnerable, tricks),
                ("play", 1, 0, level, strain, doubled, 2, both, tricks),
                ("play", 1, 0, level, strain, doubled, 3, both, tricks),
            )
            self.assertEqual(answer[1], answer[0])
            self.assertEqual(answer[2], [0, -answer[0][1]])

    def test_the_entry_is_one_outcome_of_its_group(self):
        answer = ask(
            ("play", 1, 5, 4, 3, 0, 0, 0, 10),
            ("enter", 2, 5, [1, 400]),
            ("enter", 3, 6, [1, 10000]),
            ("cross", 1),
            ("cross", 3),
        )
        self.assertEqual(answer[3:], [[0, 1, 1], [0, 0, 1]])


class PassTest(unittest.TestCase):
    def test_one_outcome_with_score_zero(self):
        answer = ask(
            ("pass", 1, 9),
            ("enter", 2, 9, [1, 20]),
            ("enter", 3, 9, [1, -50]),
            ("enter", 4, 0, [1, 900]),
            ("cross", 1),
            ("mp", 1),
        )
        self.assertEqual(answer[0], [0])
        self.assertEqual(answer[4], [0, 1, 2])
        # m is 2 of 3 entries, stretched to 4.
        self.assertEqual(answer[5], [0, 3, 1, 3, 1])

    def test_passed_boards_are_equal(self):
        self.assertEqual(ask_last(("pass", 1, 0), ("pass", 2, 0), ("mp", 1)), [0, 1, 1, 1, 1])


class ArtTest(unittest.TestCase):
    def test_ends_of_the_ranges(self):
        answer = ask(("art", 1, 0, 100), ("art", 99, 100, 0), ("percent", 1), ("percent", 99), ("sheet",))
        self.assertEqual(answer, [[0], [0], [0, 0, 10000], [0, 10000, 0], [0, 1, 0, 1, 99, 2, 1]])

    def test_sides_are_kept_apart(self):
        self.assertEqual(ask_last(("art", 1, 60, 30), ("percent", 1)), [0, 6000, 3000])

    def test_is_of_no_group(self):
        for group in range(10):
            answer = ask(("enter", 1, group, [1, 100]), ("art", 2, 50, 50), ("cross", 1), ("cross", 2))
            self.assertEqual(answer[2:], [[0, 0, 1], [-3]])


class RemoveTest(unittest.TestCase):
    def test_no_entry(self):
        self.assertEqual(ask(("remove", 1), ("pass", 1, 0), ("remove", 2)), [[-2], [0], [-2]])

    def test_there_is_none_any_more(self):
        for entry in (("enter", 4, 1, [1, 10]), ("play", 4, 1, 1, 0, 0, 0, 0, 7), ("pass", 4, 1), ("art", 4, 50, 50)):
            answer = ask(entry, ("remove", 4), ("remove", 4), *look([4]), entry)
            self.assertEqual(answer[1:-1], [[0], [-2], [0], [0, 0, 0]] + [[-3]] * 10 + [[-2]] * 5)
            self.assertEqual(answer[-1][0], 0)

    def test_others_stay_as_if_it_had_not_been(self):
        kept = [("enter", 1, 0, [1, 100]), ("enter", 3, 0, [1, 50]), ("art", 4, 60, 40)]
        seen = look([1, 2, 3, 4])
        self.assertEqual(
            ask(("enter", 2, 0, [1, 80]), *kept, ("remove", 2), *seen)[5:],
            ask(*kept, *seen)[3:],
        )

    def test_ends_of_the_range(self):
        answer = ask(("pass", 1, 0), ("pass", 99, 0), ("remove", 1), ("remove", 99), ("sheet",))
        self.assertEqual(answer[2:], [[0], [0], [0]])


class FullSheetTest(unittest.TestCase):
    def new_entries(self, table):
        return [
            ("enter", table, 0, [1, 5]), ("play", table, 0, 1, 0, 0, 0, 0, 7), ("pass", table, 0), ("art", table, 50, 50),
        ]

    def test_sixty_have_room(self):
        answer = ask(*SIXTY, ("sheet",))
        self.assertEqual(answer[:60], [[0]] * 60)
        expected = [0]
        for table in range(1, 61):
            expected += [table, 2 * (table - 1), 1]
        self.assertEqual(answer[60], expected)

    def test_a_61st_table_has_none_and_changes_nothing(self):
        for table in (61, 99):
            for entry in self.new_entries(table):
                seen = look([1, 30, 60, table])
                self.assertEqual(ask(*SIXTY, entry, *seen)[60:], [[-6]] + ask(*SIXTY, *seen)[60:])

    def test_a_table_of_sixty_is_entered_anew(self):
        for table in (1, 30, 60):
            for entry in self.new_entries(table):
                answer = ask(*SIXTY, entry, ("mp", table), ("sheet",))
                self.assertEqual(answer[60][0], 0)
                self.assertEqual(len(answer[62]), 1 + 3 * 60)
                others = [call for call in SIXTY if call[1] != table]
                self.assertEqual(answer[61:], ask(*others, entry, ("mp", table), ("sheet",))[60:])

    def test_room_again_when_one_is_removed(self):
        for entry in self.new_entries(99):
            answer = ask(*SIXTY, ("remove", 17), entry, ("pass", 98, 0), ("sheet",))
            self.assertEqual(answer[61][0], 0)
            self.assertEqual(answer[62], [-6])
            self.assertEqual(answer[63][1::3], [t for t in range(1, 61) if t != 17] + [99])

    def test_any_sixty_tables(self):
        full = [("art", table, 50, 50) for table in range(99, 39, -1)]
        self.assertEqual(ask_last(*full, ("pass", 39, 0)), [-6])
        self.assertEqual(ask_last(*full[1:], ("pass", 39, 0)), [0])


if __name__ == "__main__":
    unittest.main()
