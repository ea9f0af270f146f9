"""Lists of calls that join the line, asked through the interface alone."""

import unittest

from tests.support import answers_of, centring, joining, last_answer, settings

LAY = [0] + settings()

BLOOD = [0, 300, 700, 0]


class Joining(unittest.TestCase):
    def test_every_call_on_the_way(self):
        self.assertEqual(answers_of(*centring()), [[0], [0], [100, 1], [0], [0], [0], [0]])

    def test_not_before_the_latch_is_lowered(self):
        calls = [LAY, [1, 2, 300], [5, 100]]
        self.assertEqual(last_answer(*calls, [3, 1]), [-3])
        self.assertEqual(last_answer(*calls, [14, 0], [3, 1]), [0])

    def test_not_before_the_line_is_clean(self):
        self.assertEqual(last_answer(LAY, [3, 1]), [-4])
        # Blind channels see no air from the first move on, so nothing but clean holds the sink back.
        blind = [LAY, [10, 0, 1, 0], [10, 1, 1, 0]]
        self.assertEqual(last_answer(*blind, [5, 1], [3, 1]), [-4])
        self.assertEqual(last_answer(*blind, [5, 2], [3, 1]), [0])

    def test_from_a_loop(self):
        calls = joining() + [[3, 2], [5, 9]]
        self.assertEqual(answers_of(*calls, [3, 1], [5, 1])[-2:], [[0], [1, 0, 0]])

    def test_the_longest_line(self):
        calls = joining(n=64, dz=1, ch=2, dt=3)
        # 61 good readings behind the air of the first moves.
        self.assertEqual(last_answer(*calls), [0])
        self.assertEqual(last_answer(*calls, [15])[:2], [0, 61])


class LayRefused(unittest.TestCase):
    def test_while_joined_and_all_is_as_it_was(self):
        asking = [[15], [17]] + [[16, i] for i in range(8)]
        calls = centring() + [[5, 3], [6, 7]]
        before = answers_of(*calls, *asking)[-10:]
        refused = answers_of(*calls, LAY, *asking)[-11:]
        self.assertEqual(refused, [[-3]] + before)

    def test_the_range_is_told_first(self):
        self.assertEqual(last_answer(*centring(), [0] + settings(z=0)), [-1])

    def test_latched_or_not(self):
        self.assertEqual(last_answer(*centring(), [6, 61], LAY), [-3])
        self.assertEqual(last_answer(*centring(), [6, 61], [3, 0], LAY), [0])
        self.assertEqual(last_answer(*centring(), [6, 61], [3, 2], LAY), [0])


class GivenBack(unittest.TestCase):
    def test_blood(self):
        self.assertEqual(last_answer(*centring(), [5, 3], [17])[6:12], [900, 2100, 0, 0, 0, 0])
        self.assertEqual(last_answer(*centring(), [11, 1, 1], [5, 3], [17])[6:12], [0, 0, 0, 900, 2100, 0])

    def test_less_water_behind_the_dialyser(self):
        calls = centring() + [[4, 100], [5, 8]]
        self.assertEqual(last_answer(*calls), [8, 0] + [0] * 8)
        # The cells that stood at 2 to 7 had passed the dialyser before; those at 1 and 0 hadn't.
        self.assertEqual(last_answer(*calls, [17])[6:9], [2400, 5600 - 200, 0])
        self.assertEqual(last_answer(*calls, [17])[18], 800)
        self.assertEqual(answers_of(*calls, [16, 1], [16, 2])[-2:], [BLOOD, [0, 300, 600, 0]])

    def test_air_that_blind_channels_let_by(self):
        calls = [[0] + settings(room=0), [10, 0, 1, 0], [10, 1, 1, 0], [5, 2], [3, 1]]
        self.assertEqual(last_answer(*calls, [5, 3]), [3, 0, 1000, 1000, 1000])
        self.assertEqual(last_answer(*calls, [5, 3], [17])[6:12], [0, 0, 3000, 0, 0, 0])
        self.assertEqual(last_answer(*calls, [11, 1, 1], [5, 3]), [3, 0, 1000, 1000, 1000])
        self.assertEqual(last_answer(*calls, [11, 1, 1], [5, 3], [17])[6:12], [0, 0, 0, 0, 0, 3000])

    def test_small_air_goes_by_in_order(self):
        # Three bags of 900, 990 and 999 make cells with 100, 10 and 1 of air; there's no room in the trap.
        bags = [call for v in (900, 990, 999) for call in ([2, v], [5, 1])]
        calls = centring(room=0) + [[1, 1, 0]] + bags + [[1, 2, 300], [5, 9]]
        self.assertEqual(last_answer(*calls), [9, 0, 0, 0, 0, 0, 0, 100, 10, 1, 0])


class StopsInTheMiddle(unittest.TestCase):
    def test_at_air(self):
        # The trap is full of the line's first air, so what the slipped artery draws comes to the detector.
        calls = centring(room=4000) + [[11, 0, 1], [5, 100]]
        self.assertEqual(last_answer(*calls), [7, 1] + [0] * 7)
        self.assertEqual(last_answer(*calls, [5, 1]), [-3])
        self.assertEqual(last_answer(*calls, [17])[6:9], [2100, 4900, 0])
        self.assertEqual(answers_of(*calls, [16, 6], [16, 7])[-2:], [[0, 0, 0, 1000], BLOOD])
        self.assertEqual(last_answer(*calls, [15])[:4], [1, 0, 3, 1000])

    def test_vented_in_time_it_goes_on(self):
        calls = centring(room=4000) + [[11, 0, 1], [12], [5, 8], [12], [5, 4], [12], [5, 4]]
        self.assertEqual(answers_of(*calls)[-1], [4, 0, 0, 0, 0, 0])
        self.assertEqual(answers_of(*calls)[-6::2], [[0, 4000], [0, 4000], [0, 4000]])

    def test_flushed_and_joined_again(self):
        stopped = centring(room=4000) + [[11, 0, 1], [5, 100], [11, 0, 0]]
        again = stopped + [[14, 0], [3, 0], [5, 20], [14, 0], [3, 1], [5, 1]]
        self.assertEqual(answers_of(*again)[-6:], [[-4], [0], [20, 1], [0], [0], [1, 0, 0]])

    def test_at_unlike_channels(self):
        self.assertEqual(last_answer(*centring(), [10, 0, 1, 101], [5, 100]), [2, 2, 0, 0])
        self.assertEqual(last_answer(*centring(), [10, 0, 1, 100], [5, 4]), [4, 0, 0, 0, 0, 0])

    def test_at_thick_blood(self):
        self.assertEqual(last_answer(*centring(), [1, 2, 601], [5, 100]), [3, 32, 0, 0, 0])

    def test_with_no_centre(self):
        self.assertEqual(last_answer(*joining(), [5, 4], [5, 100]), [6, 64] + [0] * 6)

    def test_several_latches_at_one_move(self):
        # The third move reads 600 a first time and has the thick cell at the dialyser; the second raised none.
        calls = centring() + [[1, 2, 601], [5, 2], [10, 1, 1, 600], [5, 5]]
        self.assertEqual(last_answer(*calls), [1, 33, 0])
        self.assertEqual(last_answer(*calls, [15])[10], 1)

    def test_not_joined_it_does_not_stop(self):
        calls = centring(room=4000) + [[3, 0], [11, 0, 1], [5, 100]]
        self.assertEqual(last_answer(*calls), [100, 1])


class LetGo(unittest.TestCase):
    def test_centre_and_pressures_are_forgotten(self):
        for x in (0, 2):
            calls = centring() + [[3, x]]
            self.assertEqual(last_answer(*calls, [8]), [-3])
            self.assertEqual(last_answer(*calls, [3, 1], [5, 100])[:2], [10, 64])

    def test_the_same_sink_forgets_nothing(self):
        self.assertEqual(last_answer(*centring(), [3, 1], [5, 20]), [20, 0] + [0] * 20)

    def test_pressures_raise_no_latch_then(self):
        self.assertEqual(last_answer(*centring(), [3, 0], [7, 1000, 1000]), [0])
        self.assertEqual(last_answer(*centring(), [7, 1000, 1000]), [24])


if __name__ == "__main__":
    unittest.main()
