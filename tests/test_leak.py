"""Promise 9: leak."""

import unittest

from tests.support import centring, flushed, joined, last_answer, settings

LAY = [0] + settings()


class Streak(unittest.TestCase):
    def streaks(self, table, *counts):
        seen = []
        for x in counts:
            table.leak(x)
            seen.append(table.machine.streak)
        return seen

    def test_grows_from_the_setting_on(self):
        self.assertEqual(self.streaks(flushed(), 10, 11), [1, 2])
        self.assertEqual(self.streaks(flushed(), 1000000, 10), [1, 2])

    def test_less_begins_anew(self):
        self.assertEqual(self.streaks(flushed(), 9), [0])
        self.assertEqual(self.streaks(flushed(), 10, 10, 9, 10), [1, 2, 0, 1])
        self.assertEqual(self.streaks(flushed(), 10, 10, 10, 0), [1, 2, 3, 0])

    def test_never_beyond_three(self):
        self.assertEqual(self.streaks(flushed(), *[10] * 6), [1, 2, 3, 3, 3, 3])

    def test_the_setting_at_its_ends(self):
        self.assertEqual(self.streaks(flushed(leak=1), 0, 1, 1000000), [0, 1, 2])
        self.assertEqual(self.streaks(flushed(leak=1000000), 1000000, 999999, 1000000), [1, 0, 1])

    def test_only_streak_changes(self):
        table = joined()
        before = table.picture()
        table.leak(10)
        table.leak(10)
        self.assertEqual(table.picture(), {**before, "streak": 2})

    def test_moving_and_waiting_leave_it(self):
        table = joined()
        table.leak(10)
        table.move(3)
        table.wait(1)
        table.sink(0)
        self.assertEqual(table.machine.streak, 1)


class Latch(unittest.TestCase):
    def test_at_the_third_in_a_row(self):
        for x in (0, 1, 2):
            with self.subTest(x=x):
                table = flushed()
                table.sink(x)
                self.assertEqual([table.leak(10) for i in range(4)], [[0], [0], [4], [4]])
                self.assertEqual(table.up(), [2])

    def test_not_at_three_with_one_less_between(self):
        table = flushed()
        self.assertEqual([table.leak(x) for x in (10, 10, 9, 10, 10)], [[0]] * 5)

    def test_stays_up_when_the_streak_ends(self):
        table = flushed()
        for x in (10, 10, 10):
            table.leak(x)
        self.assertEqual(table.leak(0), [4])
        self.assertEqual(table.machine.streak, 0)

    def test_raised_again_while_the_streak_is_three(self):
        table = flushed()
        for x in (10, 10, 10):
            table.leak(x)
        table.machine.lower_latch(2)
        self.assertEqual(table.leak(10), [4])

    def test_answer_is_the_latches_number(self):
        self.assertEqual(last_answer(LAY, [9, 10]), [0])
        self.assertEqual(last_answer(LAY, [5, 1], [9, 10]), [1])
        self.assertEqual(last_answer(LAY, [5, 1], [9, 10], [9, 10], [9, 10]), [5])

    def test_stops_the_pump(self):
        calls = centring() + [[9, 10], [9, 10], [5, 1], [9, 10]]
        self.assertEqual(last_answer(*calls), [4])
        self.assertEqual(last_answer(*calls, [5, 1]), [-3])

    def test_a_new_line_begins_anew(self):
        self.assertEqual(last_answer(LAY, [9, 10], [9, 10], LAY, [9, 10]), [0])
        self.assertEqual(last_answer(LAY, [9, 10], [9, 10], [9, 10], LAY, [9, 10]), [0])

    def test_order(self):
        self.assertEqual(last_answer([9, -1]), [-1])
        self.assertEqual(last_answer([9, 1000001]), [-1])
        self.assertEqual(last_answer([9, 0]), [-2])


if __name__ == "__main__":
    unittest.main()
