"""The ranges of all arguments: both ends, just beyond, and the widest numbers."""

import unittest

from tests.support import HIGHEST, LOWEST, SETTINGS, Table, flushed, joined, last_answer, settings

LAY = [0] + settings()

LAY_RANGES = {
    "n": (8, 64), "w": (1, 32), "t": (1, 1000), "s": (1, 32000), "d": (0, 1000),
    "room": (0, 1000000), "k": (1, 1000), "leak": (1, 1000000), "p": (1, 1000), "z": (1, 3600),
}

# A call's place, its arguments, which of them is tried, lowest, highest.
OTHER_RANGES = [
    (1, [0, 500], 0, 0, 2),
    (1, [0, 500], 1, 0, 1000),
    (1, [2, 500], 1, 0, 1000),
    (2, [0], 0, 0, 5000000),
    (3, [0], 0, 0, 2),
    (4, [0], 0, 0, 500),
    (5, [1], 0, 1, 100),
    (6, [1], 0, 1, 3600),
    (7, [0, 50], 0, -1000, 1000),
    (7, [0, 50], 1, -1000, 1000),
    (9, [0], 0, 0, 1000000),
    (10, [0, 1, 500], 0, 0, 1),
    (10, [0, 1, 500], 1, 0, 1),
    (10, [0, 1, 500], 2, 0, 1000),
    (10, [1, 0, 500], 2, 0, 1000),
    (11, [0, 1], 0, 0, 1),
    (11, [0, 1], 1, 0, 1),
    (14, [0], 0, 0, 7),
    (16, [0], 0, 0, 63),
]


class LayRanges(unittest.TestCase):
    def test_ends_are_taken(self):
        for name, (lowest, highest) in LAY_RANGES.items():
            for number in (lowest, highest):
                with self.subTest(name=name, number=number):
                    self.assertEqual(last_answer([0] + settings(**{name: number})), [0])

    def test_beyond_the_ends_is_refused(self):
        for name, (lowest, highest) in LAY_RANGES.items():
            for number in (lowest - 1, highest + 1, LOWEST, HIGHEST):
                with self.subTest(name=name, number=number):
                    self.assertEqual(last_answer([0] + settings(**{name: number})), [-1])

    def test_places_at_their_ends(self):
        for dz, ch, dt, n in [(1, 2, 3, 8), (5, 6, 7, 8), (1, 6, 7, 8), (1, 2, 7, 8), (61, 62, 63, 64), (1, 2, 63, 64)]:
            with self.subTest(dz=dz, ch=ch, dt=dt, n=n):
                self.assertEqual(last_answer([0] + settings(dz=dz, ch=ch, dt=dt, n=n)), [0])

    def test_places_beyond_their_ends(self):
        wrong = [
            (0, 2, 3, 8), (2, 2, 3, 8), (3, 2, 4, 8), (1, 3, 3, 8), (1, 4, 3, 8), (1, 2, 8, 8),
            (1, 2, 9, 8), (6, 7, 8, 8), (61, 62, 64, 64), (62, 63, 64, 64), (1, 1, 1, 8), (-1, 2, 3, 8),
            (3, 2, 1, 8), (2, 1, 3, 8), (2, 4, 8, 8), (2, 4, 6, 6),
        ]
        for dz, ch, dt, n in wrong:
            with self.subTest(dz=dz, ch=ch, dt=dt, n=n):
                self.assertEqual(last_answer([0] + settings(dz=dz, ch=ch, dt=dt, n=n)), [-1])

    def test_places_at_the_widest_numbers(self):
        for name in ("dz", "ch", "dt"):
            for number in (LOWEST, HIGHEST):
                with self.subTest(name=name, number=number):
                    self.assertEqual(last_answer([0] + settings(**{name: number})), [-1])

    def test_all_thirteen_are_tried(self):
        self.assertEqual(set(LAY_RANGES) | {"dz", "ch", "dt"}, set(SETTINGS))


class OtherRanges(unittest.TestCase):
    def with_number(self, row, number):
        place, arguments, which = row[:3]
        call = [place] + arguments
        call[1 + which] = number
        return call

    def test_ends_are_taken(self):
        for row in OTHER_RANGES:
            for number in row[3:]:
                call = self.with_number(row, number)
                with self.subTest(call=call):
                    answer = flushed(n=64).call(*call)
                    # No latch is up, so reset has another refusal for a number in its range.
                    self.assertEqual(answer[0] < 0, call[0] == 14)
                    self.assertNotEqual(answer, [-1])

    def test_beyond_the_ends_is_refused_and_nothing_changes(self):
        for row in OTHER_RANGES:
            for number in (row[3] - 1, row[4] + 1, LOWEST, HIGHEST):
                call = self.with_number(row, number)
                with self.subTest(call=call):
                    self.assertEqual(last_answer(LAY, call), [-1])
                    table = joined()
                    before = table.picture()
                    self.assertEqual(table.call(*call), [-1])
                    self.assertEqual(table.picture(), before)

    def test_minus_one_comes_before_minus_two(self):
        for row in OTHER_RANGES:
            call = self.with_number(row, row[4] + 1)
            with self.subTest(call=call):
                self.assertEqual(last_answer(call), [-1])


class NoLine(unittest.TestCase):
    CALLS = [
        [1, 2, 300], [2, 5000], [3, 0], [3, 1], [3, 2], [4, 10], [5, 1], [6, 1], [7, 0, 50], [8], [9, 1000000],
        [10, 0, 1, 5], [10, 1, 0, 0], [11, 0, 1], [11, 1, 1], [12], [13], [14, 0], [14, 1], [14, 7], [15],
        [16, 0], [16, 63], [17],
    ]

    def test_all_places_are_tried(self):
        self.assertEqual(sorted({call[0] for call in self.CALLS}), list(range(1, 18)))

    def test_every_call_but_lay_answers_minus_two(self):
        for call in self.CALLS:
            with self.subTest(call=call):
                self.assertEqual(last_answer(call), [-2])

    def test_a_refused_lay_lays_nothing(self):
        for call in self.CALLS:
            with self.subTest(call=call):
                self.assertEqual(last_answer([0] + settings(n=65), call), [-2])

    def test_the_object_is_as_it_was(self):
        table = Table()
        table.machine.__init__()
        before = table.picture()
        for call in self.CALLS:
            with self.subTest(call=call):
                self.assertEqual(table.call(*call), [-2])
                self.assertEqual(table.picture(), before)


if __name__ == "__main__":
    unittest.main()
