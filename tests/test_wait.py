"""Promise 6: wait."""

import unittest

from tests.support import Table, flushed, joined, last_answer, settings

LAY = [0] + settings()


class Wait(unittest.TestCase):
    def test_grows_with_red_in_the_line(self):
        table = flushed(z=3600)
        self.assertEqual(table.wait(1), [0])
        self.assertEqual(table.machine.still, 1)
        self.assertEqual(table.wait(3599), [0])
        self.assertEqual(table.machine.still, 3600)

    def test_only_still_changes(self):
        table = joined()
        before = table.picture()
        table.wait(60)
        self.assertEqual(table.picture(), {**before, "still": 60})

    def test_red_in_any_one_cell(self):
        for i in range(8):
            with self.subTest(i=i):
                table = Table()
                table.set_cell(i, 1, 0, 999)
                table.wait(5)
                self.assertEqual(table.machine.still, 5)

    def test_no_red_sets_it_to_nothing(self):
        table = flushed()
        table.wait(50)
        for i in range(8):
            table.set_cell(i, 0, 1000, 0)
        self.assertEqual(table.wait(3600), [0])
        self.assertEqual(table.machine.still, 0)

    def test_latch_beyond_z(self):
        for x in (0, 1, 2):
            with self.subTest(x=x):
                table = flushed()
                table.sink(x)
                self.assertEqual(table.wait(60), [0])
                self.assertEqual(table.wait(1), [128])
                self.assertEqual(table.up(), [7])

    def test_z_at_its_ends(self):
        self.assertEqual(flushed(z=1).wait(1), [0])
        self.assertEqual(flushed(z=1).wait(2), [128])
        table = flushed(z=3600)
        self.assertEqual(table.wait(3600), [0])
        self.assertEqual(table.wait(1), [128])

    def test_never_beyond_a_million(self):
        table = flushed()
        table.machine.still = 1000000 - 3600
        table.wait(3599)
        self.assertEqual(table.machine.still, 999999)
        table.wait(1)
        self.assertEqual(table.machine.still, 1000000)
        self.assertEqual(table.wait(3600), [128])
        self.assertEqual(table.machine.still, 1000000)

    def test_a_million_by_waiting(self):
        table = flushed()
        for i in range(300):
            table.wait(3600)
        self.assertEqual(table.machine.still, 1000000)

    def test_the_latch_stays_up(self):
        table = flushed()
        table.wait(61)
        table.move(1)
        self.assertEqual(table.wait(1), [128])

    def test_through_the_interface(self):
        self.assertEqual(last_answer(LAY, [6, 3600]), [0])
        blood = [LAY, [1, 2, 1], [5, 1]]
        self.assertEqual(last_answer(*blood, [6, 60]), [1])
        self.assertEqual(last_answer(*blood, [6, 61]), [129])
        # The red leaves the line with the ninth cell behind it.
        self.assertEqual(last_answer(*blood, [1, 0, 1], [5, 7], [6, 61]), [129])
        self.assertEqual(last_answer(*blood, [1, 0, 1], [5, 8], [6, 61]), [1])

    def test_order(self):
        self.assertEqual(last_answer([6, 0]), [-1])
        self.assertEqual(last_answer([6, 3601]), [-1])
        self.assertEqual(last_answer([6, 1]), [-2])


if __name__ == "__main__":
    unittest.main()
