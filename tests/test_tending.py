"""Promises 12 and 13: vent, check."""

import unittest

from tests.support import Table, centring, joined, last_answer, settings

LAY = [0] + settings()


class Vent(unittest.TestCase):
    def test_how_much_it_was(self):
        # The trap's cell catches a whole cell of air a move.
        self.assertEqual(last_answer(LAY, [12]), [0, 0])
        self.assertEqual(last_answer(LAY, [5, 1], [12]), [0, 1000])
        self.assertEqual(last_answer(LAY, [5, 7], [12]), [0, 7000])
        self.assertEqual(last_answer([0] + settings(room=0), [5, 7], [12]), [0, 0])
        self.assertEqual(last_answer([0] + settings(room=1), [5, 7], [12]), [0, 1])

    def test_the_trap_holds_none_then(self):
        self.assertEqual(last_answer(LAY, [5, 7], [12], [12]), [0, 0])
        self.assertEqual(last_answer(LAY, [5, 7], [12], [15])[9], 0)
        self.assertEqual(last_answer(LAY, [5, 7], [12], [5, 2], [12]), [0, 2000])

    def test_it_makes_room(self):
        full = [[0] + settings(room=1500), [5, 2]]
        self.assertEqual(last_answer(*full, [5, 1], [16, 4]), [0, 0, 0, 1000])
        self.assertEqual(last_answer(*full, [12], [5, 1], [16, 4]), [0, 0, 0, 0])

    def test_only_the_trap_and_its_total_change(self):
        table = joined()
        before = table.picture()
        self.assertEqual(table.vent(), [0, 4000])
        totals = {**before["totals"], "vented": 4000}
        self.assertEqual(table.picture(), {**before, "caught": 0, "totals": totals})

    def test_vented_by_vent_and_lay(self):
        calls = [LAY, [5, 3], [12], [5, 2]]
        self.assertEqual(last_answer(*calls, [17])[19], 3000)
        self.assertEqual(last_answer(*calls, [12], [17])[19], 5000)
        self.assertEqual(last_answer(*calls, LAY, [17])[19], 5000)
        self.assertEqual(last_answer(*calls, [12], LAY, [17])[19], 5000)

    def test_no_line(self):
        self.assertEqual(last_answer([12]), [-2])


class Check(unittest.TestCase):
    STUCK = [([10, None], 1), ([0, None], 1), ([None, 10], 2), ([None, 0], 2), ([0, 0], 3), ([7, 1000], 3)]

    def test_which_are_stuck_and_nothing_changes(self):
        for stuck, answer in self.STUCK:
            with self.subTest(stuck=stuck):
                table = joined()
                table.stick(*stuck)
                table.machine.unlike = 2
                table.machine.latches = [True] * 8
                before = table.picture()
                self.assertEqual(table.check(), [answer])
                self.assertEqual(table.picture(), before)

    def test_both_true_lowers_latch_1_alone(self):
        table = joined()
        table.machine.unlike = 2
        table.machine.latches = [True] * 8
        before = table.picture()
        self.assertEqual(table.check(), [0])
        latches = [True, False] + [True] * 6
        self.assertEqual(table.picture(), {**before, "latches": latches, "unlike": 0})

    def test_unlike_without_the_latch(self):
        table = joined()
        table.machine.unlike = 1
        before = table.picture()
        self.assertEqual(table.check(), [0])
        self.assertEqual(table.picture(), {**before, "unlike": 0})

    def test_nothing_to_lower(self):
        table = Table()
        before = table.picture()
        self.assertEqual(table.check(), [0])
        self.assertEqual(table.picture(), before)

    def test_latch_1_raised_and_lowered(self):
        raised = centring() + [[10, 1, 1, 101], [5, 9]]
        self.assertEqual(last_answer(*raised), [2, 2, 0, 0])
        self.assertEqual(last_answer(*raised, [13]), [2])
        self.assertEqual(last_answer(*raised, [13], [5, 1]), [-3])
        # The stuck number was far below t, so nothing else is up.
        mended = raised + [[10, 1, 0, 0], [13]]
        self.assertEqual(last_answer(*mended), [0])
        self.assertEqual(last_answer(*mended, [15])[0], 0)
        self.assertEqual(last_answer(*mended, [15])[10], 0)
        self.assertEqual(last_answer(*mended, [5, 1]), [1, 0, 0])

    def test_unlike_begins_anew(self):
        calls = centring() + [[10, 1, 1, 101], [5, 1], [10, 1, 0, 0], [13], [10, 1, 1, 101], [5, 2]]
        self.assertEqual(last_answer(*calls), [2, 2, 0, 0])

    def test_no_line(self):
        self.assertEqual(last_answer([13]), [-2])


if __name__ == "__main__":
    unittest.main()
