"""Promise 3: sink."""

import unittest

from tests.support import Table, centred, flushed, joined, last_answer, settings

LAY = [0] + settings()


class Change(unittest.TestCase):
    def test_to_drain_and_loop(self):
        table = Table()
        self.assertEqual(table.sink(2), [0])
        self.assertEqual(table.machine.sink, 2)
        self.assertEqual(table.sink(0), [0])
        self.assertEqual(table.machine.sink, 0)

    def test_latches_and_clean_matter_for_the_patient_only(self):
        table = Table()
        table.move()
        self.assertEqual(table.up(), [0])
        self.assertEqual(table.sink(2), [0])
        self.assertEqual(table.sink(0), [0])

    def test_a_latched_guard_lets_go_of_the_patient(self):
        for x in (0, 2):
            table = joined()
            table.machine.raise_latch(4)
            self.assertEqual(table.sink(x), [0])
            self.assertEqual(table.machine.sink, x)

    def test_every_change_forgets_the_centring(self):
        for first, then in [(0, 1), (0, 2), (1, 0), (1, 2), (2, 0), (2, 1)]:
            with self.subTest(first=first, then=then):
                table = flushed()
                table.sink(first)
                table.press(-100, 200)
                table.centre()
                table.machine.uncentred = 4
                before = table.picture()
                self.assertEqual(table.sink(then), [0])
                changed = {"sink": then, "pressures": None, "centre": None, "uncentred": 0}
                self.assertEqual(table.picture(), {**before, **changed})
                self.assertEqual(table.centre(), [-3])

    def test_forgets_through_the_interface(self):
        self.assertEqual(last_answer(LAY, [7, 0, 50], [3, 2], [8]), [-3])
        self.assertEqual(last_answer(LAY, [7, 0, 50], [3, 0], [8]), [0])


class SameSink(unittest.TestCase):
    def test_nothing_changes(self):
        for x in (0, 1, 2):
            with self.subTest(x=x):
                table = flushed()
                table.sink(x)
                table.press(-100, 200)
                table.centre()
                table.machine.uncentred = 4
                before = table.picture()
                self.assertEqual(table.sink(x), [0])
                self.assertEqual(table.picture(), before)

    def test_joined_already_is_no_refusal(self):
        table = centred()
        table.machine.raise_latch(3)
        table.machine.clean = 0
        before = table.picture()
        self.assertEqual(table.sink(1), [0])
        self.assertEqual(table.picture(), before)


class Joining(unittest.TestCase):
    def test_clean_as_far_as_needed(self):
        table = flushed()
        self.assertEqual(table.machine.clean, 2)
        self.assertEqual(table.sink(1), [0])
        self.assertTrue(table.machine.joined())

    def test_clean_one_short(self):
        for dt in (5, 6, 7):
            with self.subTest(dt=dt):
                table = flushed(dt=dt)
                table.machine.clean = 8 - dt - 1
                before = table.picture()
                self.assertEqual(table.sink(1), [-4])
                self.assertEqual(table.picture(), before)
                table.machine.clean = 8 - dt
                self.assertEqual(table.sink(1), [0])

    def test_any_latch_refuses(self):
        for number in range(8):
            for x in (0, 2):
                with self.subTest(number=number, x=x):
                    table = flushed()
                    table.sink(x)
                    table.machine.raise_latch(number)
                    before = table.picture()
                    self.assertEqual(table.sink(1), [-3])
                    self.assertEqual(table.picture(), before)

    def test_order(self):
        self.assertEqual(last_answer([3, 3]), [-1])
        self.assertEqual(last_answer([3, 1]), [-2])
        self.assertEqual(last_answer(LAY, [3, 1]), [-4])
        # Latched and not clean: the latch is told first.
        self.assertEqual(last_answer(LAY, [5, 1], [3, 1]), [-3])
        self.assertEqual(last_answer(LAY, [5, 1], [3, 3]), [-1])


if __name__ == "__main__":
    unittest.main()
