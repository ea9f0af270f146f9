"""Promises 10 and 11: fault, slip."""

import unittest

from tests.support import HIGHEST, LOWEST, Table, centring, flushed, joined, joining, last_answer, settings

LAY = [0] + settings()


class Fault(unittest.TestCase):
    def test_one_channel_alone(self):
        for c, m, v, stuck in [
            (0, 1, 0, [0, None]), (0, 1, 1000, [1000, None]), (1, 1, 0, [None, 0]), (1, 1, 321, [None, 321]),
        ]:
            with self.subTest(c=c, m=m, v=v):
                table = joined()
                before = table.picture()
                self.assertEqual(table.fault(c, m, v), [0])
                self.assertEqual(table.picture(), {**before, "stuck": stuck})

    def test_true_again_whatever_v_is(self):
        for c, stuck in [(0, [None, 60]), (1, [50, None])]:
            for v in (0, 50, 1000):
                with self.subTest(c=c, v=v):
                    table = Table()
                    table.stick(50, 60)
                    self.assertEqual(table.fault(c, 0, v), [0])
                    self.assertEqual(table.machine.stuck, stuck)

    def test_true_already_stays_true(self):
        table = Table()
        before = table.picture()
        self.assertEqual(table.fault(0, 0, 700), [0])
        self.assertEqual(table.fault(1, 0, 700), [0])
        self.assertEqual(table.picture(), before)

    def test_a_new_number_takes_the_old_ones_place(self):
        table = Table()
        table.fault(1, 1, 5)
        table.fault(1, 1, 6)
        self.assertEqual(table.machine.stuck, [None, 6])

    def test_v_out_of_its_range_where_m_is_nothing(self):
        for v in (-1, 1001, LOWEST, HIGHEST):
            with self.subTest(v=v):
                self.assertEqual(last_answer([10, 0, 0, v]), [-1])
                table = Table()
                table.stick(50, 60)
                before = table.picture()
                self.assertEqual(table.fault(0, 0, v), [-1])
                self.assertEqual(table.fault(1, 0, v), [-1])
                self.assertEqual(table.picture(), before)

    def test_order(self):
        self.assertEqual(last_answer([10, 2, 0, 0]), [-1])
        self.assertEqual(last_answer([10, 0, 2, 0]), [-1])
        self.assertEqual(last_answer([10, 0, 1, 1001]), [-1])
        self.assertEqual(last_answer([10, 0, 1, 1000]), [-2])

    def test_a_channel_stuck_low_lets_air_by_unseen(self):
        # The other channel still tells, and the two lie 1000 apart: seen at once, and unlike at the second move.
        calls = [[0] + settings(room=0), [10, 0, 1, 0], [5, 1]]
        self.assertEqual(last_answer(*calls), [1, 1])
        self.assertEqual(last_answer(*calls, [5, 1]), [1, 3])
        self.assertEqual(last_answer(*calls, [10, 1, 1, 0], [5, 1], [15])[10], 0)

    def test_both_stuck_low_hide_all_air(self):
        calls = [LAY, [10, 0, 1, 0], [10, 1, 1, 0], [5, 2]]
        self.assertEqual(last_answer(*calls), [2, 0])
        self.assertEqual(last_answer(*calls, [3, 1]), [0])

    def test_a_channel_stuck_high_is_the_reading(self):
        for c in (0, 1):
            with self.subTest(c=c):
                calls = centring(d=1000) + [[10, c, 1, 499]]
                self.assertEqual(last_answer(*calls, [5, 1], [15])[2:4], [3, 499])
                # 499 twice are more than s allows, though each is less than t.
                self.assertEqual(last_answer(*calls, [5, 3]), [2, 1, 0, 0])

    def test_it_outlasts_the_line(self):
        calls = [LAY, [10, 0, 1, 0], [10, 1, 1, 0], LAY, [5, 2]]
        self.assertEqual(last_answer(*calls), [2, 0])
        self.assertEqual(last_answer(*calls, [13]), [3])


class Slip(unittest.TestCase):
    def test_one_needle_alone(self):
        for which, name in [(0, "artery_slipped"), (1, "vein_slipped")]:
            with self.subTest(which=which):
                table = joined()
                before = table.picture()
                self.assertEqual(table.slip(which, 1), [0])
                self.assertEqual(table.picture(), {**before, name: True})
                self.assertEqual(table.slip(which, 1), [0])
                self.assertEqual(table.picture(), {**before, name: True})
                self.assertEqual(table.slip(which, 0), [0])
                self.assertEqual(table.picture(), before)

    def test_the_other_needle_stays_slipped(self):
        table = flushed()
        table.slip(0, 1)
        table.slip(1, 1)
        table.slip(0, 0)
        self.assertEqual((table.machine.artery_slipped, table.machine.vein_slipped), (False, True))
        table.slip(0, 1)
        table.slip(1, 0)
        self.assertEqual((table.machine.artery_slipped, table.machine.vein_slipped), (True, False))

    def test_the_artery_draws_air(self):
        calls = [LAY, [1, 2, 300], [11, 0, 1], [5, 1]]
        self.assertEqual(last_answer(*calls, [16, 0]), [0, 0, 0, 1000])
        self.assertEqual(last_answer(*calls, [11, 0, 0], [5, 1], [16, 0]), [0, 300, 700, 0])

    def test_the_vein_spills(self):
        calls = centring() + [[11, 1, 1], [5, 2]]
        self.assertEqual(last_answer(*calls), [2, 0, 0, 0])
        self.assertEqual(last_answer(*calls, [17])[6:12], [0, 0, 0, 600, 1400, 0])
        self.assertEqual(last_answer(*calls, [11, 1, 0], [5, 1], [17])[6:12], [300, 700, 0, 600, 1400, 0])

    def test_both_outlast_the_line(self):
        calls = joining() + [[11, 0, 1], [11, 1, 1], [3, 0], LAY, [5, 1]]
        self.assertEqual(last_answer(*calls, [16, 0]), [0, 0, 0, 1000])
        again = [[11, 0, 0], [5, 100], [14, 0], [3, 1], [5, 1], [17]]
        self.assertEqual(last_answer(*calls, *again)[6:12], [0, 0, 0, 300, 700, 0])

    def test_order(self):
        for call in ([11, -1, 0], [11, 2, 0], [11, 0, -1], [11, 0, 2]):
            self.assertEqual(last_answer(call), [-1])
        self.assertEqual(last_answer([11, 1, 1]), [-2])


if __name__ == "__main__":
    unittest.main()
