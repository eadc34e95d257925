"""What is refused with -1, that it comes ahead of all other refusals, and that a refusal changes nothing."""

import unittest

from asking import FAR, FORMS, ROWS, ask, look

SOME = [
    ("enter", 1, 0, [1, 100]),
    ("enter", 2, 0, [3, 50, 1, 170]),
    ("enter", 3, 1, [1, -50]),
    ("art", 4, 60, 40),
]
FULL = [("enter", table, table % 3, [1, 10 * table]) for table in range(1, 60)] + [("art", 60, 60, 40)]


def wrong_values(least, most):
    return [least - 1, most + 1, least - 50, most + 1000, -FAR, FAR]


def good_row(name, length):
    """A row of this length with each number in its range, and rising where that is asked."""
    if name in ("enter", "would"):
        return [1, 10] * (length // 2) + [1] * (length % 2)
    return [10 * at for at in range(length)]


def bad_rows(name):
    """Rows that are not as told: of another length, or with one bad number in each place."""
    lengths, ranges = ROWS[name]
    rows = [good_row(name, length) for length in range(101) if length not in lengths]
    for length in sorted({lengths[0], lengths[1], lengths[2], lengths[-1]}):
        for at in range(length):
            for value in wrong_values(*ranges[at % len(ranges)]):
                row = good_row(name, length)
                row[at] = value
                rows.append(row)
    for length in (1, 100):
        rows.append([FAR] * length)
    return rows


def call_with(name, plain):
    row = FORMS[name][1]
    return (name, *plain) if row is None else (name, *plain, list(row))


def bad_calls():
    """Each call with each plain argument out of its range, and each call that has a row with each bad row."""
    calls = []
    for name, (ranges, row) in FORMS.items():
        for at, (least, most) in enumerate(ranges):
            for value in wrong_values(least, most):
                # Table 1 has an entry on each sheet used here, so that nothing but this argument is wrong.
                plain = [bounds[0] for bounds in ranges]
                plain[at] = value
                calls.append(call_with(name, plain))
    for name in ROWS:
        plain = [max(bounds[0], 0) for bounds in FORMS[name][0]]
        calls += [(name, *plain, row) for row in bad_rows(name)]
    calls.append(("enter", 0, 0, []))
    calls.append(("enter", 100, 10, [0, 20001]))
    return calls


class WrongInputsTest(unittest.TestCase):
    def refused(self, before, call, tables):
        seen = look(tables)
        with self.subTest(call=call, entries=len(before)):
            self.assertEqual(
                ask(*before, call, *seen)[len(before):],
                [[-1]] + ask(*before, *seen)[len(before):],
            )

    def test_refused_on_an_empty_sheet(self):
        for call in bad_calls():
            self.refused([], call, [1])

    def test_refused_with_entries_and_nothing_changed(self):
        for call in bad_calls():
            self.refused(SOME, call, [1, 2, 3, 4])

    def test_ahead_of_a_full_sheet(self):
        # The table is new, so with arguments as told each of these would be refused with -6.
        for name in ("enter", "play", "pass", "art"):
            ranges = FORMS[name][0]
            good = [99] + [bounds[0] for bounds in ranges[1:]]
            self.assertEqual(ask(*FULL, call_with(name, good))[-1], [-6])
            for at in range(1, len(ranges)):
                for value in wrong_values(*ranges[at]):
                    plain = list(good)
                    plain[at] = value
                    self.assertEqual(ask(*FULL, call_with(name, plain))[-1], [-1], (name, plain))
            for value in wrong_values(1, 99):
                self.assertEqual(ask(*FULL, call_with(name, [value] + good[1:]))[-1], [-1], (name, value))
        for row in bad_rows("enter"):
            self.assertEqual(ask(*FULL, ("enter", 99, 0, row))[-1], [-1], row)

    def test_ahead_of_no_entry_and_of_artificial(self):
        everywhere = [("art", table, 50, 50) for table in range(1, 61)]
        for name in ("remove", "mp", "percent", "cross", "result"):
            for value in wrong_values(1, 99):
                for before in ([], SOME, everywhere):
                    self.assertEqual(ask(*before, (name, value))[-1], [-1], (name, value))
        for before in ([], SOME, everywhere):
            for value in wrong_values(1, 99):
                self.assertEqual(ask(*before, ("butler", value, 30), ("would", value, [1, 0]))[-2:], [[-1], [-1]])
            for value in wrong_values(0, 30):
                for table in (1, 4, 99):
                    self.assertEqual(ask(*before, ("butler", table, value))[-1], [-1], (table, value))
            for row in bad_rows("would"):
                for table in (1, 4, 99):
                    self.assertEqual(ask(*before, ("would", table, row))[-1], [-1], (table, row))

    def test_ahead_of_no_datum(self):
        for before in ([], SOME):
            for value in wrong_values(0, 30):
                for group in (0, 1, 9):
                    self.assertEqual(ask(*before, ("datum", group, value))[-1], [-1], (group, value))
            for value in wrong_values(0, 9):
                for ends in (0, 1, 30):
                    self.assertEqual(ask(*before, ("datum", value, ends))[-1], [-1], (value, ends))

    def test_ends_of_each_range_are_taken(self):
        before = [("pass", 1, 0), ("pass", 99, 0), ("pass", 2, 9)]
        for name, (ranges, row) in FORMS.items():
            for at, bounds in enumerate(ranges):
                for value in bounds:
                    plain = [pair[0] for pair in ranges]
                    plain[at] = value
                    # No sheet has more than 60 entries, so that no group has a datum without 30 at each end.
                    first = {("datum", 30): -3, ("butler", 30): -4}.get((name, plain[-1] if plain else 0), 0)
                    self.assertEqual(ask(*before, call_with(name, plain))[-1][0], first, (name, plain))

    def test_rows_of_each_length_told_with_ends_of_the_ranges_in_each_place(self):
        for name, (lengths, ranges) in ROWS.items():
            plain = [max(bounds[0], 0) for bounds in FORMS[name][0]]
            for length in lengths:
                self.assertEqual(ask(("pass", 1, 0), (name, *plain, good_row(name, length)))[-1][0], 0, (name, length))
            for at in range(lengths[-1]):
                for value in ranges[at % len(ranges)]:
                    row = good_row(name, lengths[-1])
                    row[at] = value
                    first = 0
                    if name == "vp" and row != sorted(set(row)):
                        first = -5
                    self.assertEqual(ask(("pass", 1, 0), (name, *plain, row))[-1][0], first, (name, row))

    def test_other_refusals_change_nothing(self):
        seen = look([1, 2, 3, 4, 5])
        for call, refusal in ((("remove", 5), -2), (("mp", 5), -2), (("percent", 5), -2), (("cross", 5), -2),
                              (("cross", 4), -3), (("datum", 0, 1), -3), (("datum", 9, 0), -3),
                              (("butler", 5, 0), -2), (("butler", 4, 0), -3), (("butler", 1, 1), -4),
                              (("vp", 3, [5, 5]), -5), (("result", 5), -2),
                              (("would", 5, [1, 0]), -2), (("would", 4, [1, 0]), -3)):
            self.assertEqual(ask(*SOME, call, *seen)[4:], [[refusal]] + ask(*SOME, *seen)[4:])

    def test_no_entry_is_not_artificial(self):
        self.assertEqual(ask(("art", 1, 50, 50), ("remove", 1), ("cross", 1))[-1], [-2])


if __name__ == "__main__":
    unittest.main()
