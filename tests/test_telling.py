"""Promises 15, 16 and 17: look, cell, totals."""

import unittest

from tests.support import answers_of, centred, centring, joining, last_answer, settings

LAY = [0] + settings()


class Look(unittest.TestCase):
    def seen(self, which, *calls):
        return last_answer(*calls, [15])[which]

    def test_a_new_line(self):
        self.assertEqual(last_answer(LAY, [15]), [0] * 14)

    def test_all_fourteen_in_their_order(self):
        calls = joining() + [[2, 777], [4, 5], [5, 3], [10, 0, 1, 200], [5, 1], [9, 10], [9, 10], [6, 61]]
        self.assertEqual(last_answer(*calls, [15]), [128, 2, 3, 200, 2, 300, 777, 1, 5, 4000, 1, 2, 4, 61])

    def test_clean_and_readings_move_by_move(self):
        calls = [LAY, [1, 2, 300]] + [[5, 1], [15]] * 7
        seen = [answer[:4] for answer in answers_of(*calls)[3::2]]
        self.assertEqual(seen, [
            [1, 0, 1, 1000], [1, 0, 2, 2000], [1, 0, 3, 2000], [1, 0, 3, 1000],
            [1, 1, 3, 0], [1, 2, 3, 0], [1, 2, 3, 0],
        ])

    def test_what_the_calls_set(self):
        for x in (0, 1, 2):
            self.assertEqual(self.seen(slice(4, 6), LAY, [1, x, 123 + x]), [x, 123 + x])
        self.assertEqual(self.seen(6, LAY, [2, 5000000]), 5000000)
        self.assertEqual(self.seen(6, LAY, [2, 5000], [1, 1, 0], [5, 3]), 2000)
        self.assertEqual(self.seen(7, LAY, [3, 2]), 2)
        self.assertEqual(self.seen(7, *joining()), 1)
        self.assertEqual(self.seen(8, LAY, [4, 500]), 500)

    def test_still_and_uncentred_end(self):
        self.assertEqual(self.seen(13, *joining(), [6, 40]), 40)
        self.assertEqual(self.seen(13, *joining(), [6, 40], [5, 1]), 0)
        self.assertEqual(self.seen(12, *joining(), [5, 9]), 9)
        self.assertEqual(self.seen(12, *joining(), [5, 9], [3, 0]), 0)
        self.assertEqual(self.seen(12, *joining(), [5, 9], [7, 0, 50], [8]), 0)

    def test_every_latch_has_its_number(self):
        table = centred()
        for number in range(8):
            table.machine.latches = [i == number for i in range(8)]
            self.assertEqual(table.look()[0], 2 ** number)

    def test_no_line(self):
        self.assertEqual(last_answer([15]), [-2])


class Cell(unittest.TestCase):
    def test_red_water_air(self):
        calls = [[0] + settings(room=0), [1, 2, 300], [5, 1], [2, 400], [1, 1, 0], [5, 1]]
        told = answers_of(*calls, [16, 0], [16, 1], [16, 2])[-3:]
        self.assertEqual(told, [[0, 0, 400, 600], [0, 300, 700, 0], [0, 0, 0, 1000]])

    def test_each_cell_is_its_own(self):
        # Each cell comes in with a haematocrit of its own, so none can be taken for another.
        feeding = [call for h in range(8) for call in ([1, 2, h], [5, 1])]
        told = answers_of(LAY, *feeding, *[[16, i] for i in range(8)])[-8:]
        self.assertEqual(told, [[0, 7 - i, 993 + i, 0] for i in range(8)])

    def test_the_last_cell_and_one_beyond(self):
        for n in (8, 9, 63, 64):
            with self.subTest(n=n):
                lay = [0] + settings(n=n)
                self.assertEqual(last_answer(lay, [16, n - 1]), [0, 0, 0, 1000])
                self.assertEqual(last_answer(lay, [16, n]), [-3 if n < 64 else -1])
        self.assertEqual(last_answer(LAY, [16, 63]), [-3])

    def test_a_shorter_line_has_no_more_the_old_cells(self):
        self.assertEqual(last_answer([0] + settings(n=64), LAY, [16, 8]), [-3])
        self.assertEqual(last_answer(LAY, [0] + settings(n=64), [16, 8]), [0, 0, 0, 1000])

    def test_order(self):
        self.assertEqual(last_answer([16, -1]), [-1])
        self.assertEqual(last_answer([16, 64]), [-1])
        self.assertEqual(last_answer([16, 63]), [-2])
        self.assertEqual(last_answer(LAY, [16, 64]), [-1])


class Totals(unittest.TestCase):
    def test_a_first_line(self):
        self.assertEqual(last_answer(LAY, [17]), [0] * 5 + [8000] + [0] * 15 + [1])
        self.assertEqual(last_answer([0] + settings(n=64), [17]), [0] * 5 + [64000] + [0] * 15 + [1])

    def test_refused_lays_do_not_count(self):
        self.assertEqual(last_answer(LAY, [0] + settings(n=7), [17])[-1], 1)
        self.assertEqual(last_answer(*joining(), LAY, [17])[-1], 1)

    def test_all_twenty_two_in_their_order(self):
        calls = [
            [0] + settings(room=4100),
            # 8 cells of blood push the line's air out: 4 cells of it into the drain, 4 into the trap.
            [1, 2, 300], [5, 8], [14, 0], [3, 1], [7, -100, 200], [8],
            # 2 cells of blood given back, then 1 spilt.
            [5, 2], [11, 1, 1], [5, 1], [11, 1, 0],
            # Two bags that run empty: 700 of water with 300 of air, 600 with 400. 2 cells of blood given back.
            [1, 1, 300], [2, 700], [5, 1], [2, 600], [5, 1],
            # 6 cells of blood given back and the first bag's, of whose air the trap had room for 100 only;
            # the second bag's is spilt.
            [1, 2, 300], [5, 7], [11, 1, 1], [5, 1],
            # 1 cell of blood into the drain while the dialyser takes 10; another while air comes in.
            [3, 0], [4, 10], [5, 1], [12], [1, 0, 0], [4, 0], [5, 1],
            # What's left: 7 cells of blood and 1 of air.
            [0] + settings(n=9),
        ]
        told = answers_of(*calls, [17])
        self.assertEqual(told[17], [7, 0, 0, 0, 0, 0, 0, 0, 200])
        self.assertEqual(told[19], [1, 0, 400])
        self.assertEqual(told[23], [0, 4100])
        self.assertEqual(told[-1], [
            0, 6000, 14000, 0, 1300, 8000 + 700 + 1000 + 9000,
            3000, 7700, 200, 300, 1300, 400, 600, 1400, 4000, 2100, 4890, 1000, 10, 4100, 23, 2,
        ])

    def test_a_loop_brings_nothing_in(self):
        calls = [LAY, [1, 2, 300], [5, 3], [3, 2]]
        before = last_answer(*calls, [17])
        after = last_answer(*calls, [5, 50], [17])
        self.assertEqual(after[:20], before[:20])
        self.assertEqual(after[20:], [53, 1])

    def test_a_new_bag_is_not_counted(self):
        self.assertEqual(last_answer(LAY, [2, 5000], [2, 70], [17])[4], 0)
        self.assertEqual(last_answer(LAY, [2, 5000], [1, 1, 0], [5, 2], [2, 70], [5, 2], [17])[4:6], [2070, 9930])

    def test_the_patients_cells_have_no_air(self):
        self.assertEqual(last_answer(*centring(), [5, 50], [17])[3], 0)
        self.assertEqual(last_answer(LAY, [1, 2, 300], [11, 0, 1], [5, 50], [17])[1:6], [0, 0, 0, 0, 58000])

    def test_no_line(self):
        self.assertEqual(last_answer([17]), [-2])


class NothingChanges(unittest.TestCase):
    def test_telling_changes_nothing(self):
        table = centred()
        before = table.picture()
        for call in ([15], [16, 0], [16, 7], [16, 8], [17]):
            table.call(*call)
        self.assertEqual(table.picture(), before)

    def test_what_is_told_is_a_list_of_its_own(self):
        table = centred()
        before = table.picture()
        for call in ([15], [16, 0], [17]):
            table.call(*call).append(99)
        self.assertEqual(table.picture(), before)


if __name__ == "__main__":
    unittest.main()
