"""Promise 14: reset."""

import unittest

from tests.support import Table, answers_of, centred, centring, flushed, joined, joining, last_answer, settings

LAY = [0] + settings()


class ResetCase(unittest.TestCase):
    def refused(self, table, b, answer):
        before = table.picture()
        self.assertEqual(table.reset(b), [answer])
        self.assertEqual(table.picture(), before)

    def lowered(self, table, b, **changed):
        """Just latch b comes down, with what else is named changed."""
        before = table.picture()
        latches = list(before["latches"])
        self.assertTrue(latches[b])
        latches[b] = False
        number = sum(2 ** i for i in range(8) if latches[i])
        self.assertEqual(table.reset(b), [number])
        self.assertEqual(table.picture(), {**before, "latches": latches, **changed})


class NotUp(ResetCase):
    def test_each_latch(self):
        for b in range(8):
            for table in (Table(), flushed(), joined()):
                with self.subTest(b=b):
                    self.refused(table, b, -3)

    def test_each_latch_with_all_others_up(self):
        for b in range(8):
            with self.subTest(b=b):
                table = joined()
                table.machine.latches = [i != b for i in range(8)]
                self.refused(table, b, -3)

    def test_told_ahead_of_what_forbids_lowering(self):
        # Clean is short, a streak is on, the pressures are bad, u isn't 0, joined with no centre.
        table = joined()
        table.press(0, 50)
        table.machine.pressures = (101, 401)
        table.machine.clean = 0
        table.leak(10)
        table.ultra(5)
        for b in range(8):
            with self.subTest(b=b):
                self.refused(table, b, -3)
                table.machine.raise_latch(b)
                self.refused(table, b, -4)
                table.machine.lower_latch(b)

    def test_a_second_time(self):
        self.assertEqual(last_answer(LAY, [5, 1], [1, 2, 300], [5, 20], [14, 0], [14, 0]), [-3])

    def test_order(self):
        self.assertEqual(last_answer([14, -1]), [-1])
        self.assertEqual(last_answer([14, 8]), [-1])
        self.assertEqual(last_answer([14, 0]), [-2])
        self.assertEqual(last_answer(LAY, [14, 8]), [-1])
        self.assertEqual(last_answer(LAY, [14, 0]), [-3])
        self.assertEqual(last_answer(LAY, [5, 1], [14, 0]), [-4])


class AllUp(ResetCase):
    def test_one_latch_comes_down_alone(self):
        for b in (0, 2, 3, 4, 5, 6):
            with self.subTest(b=b):
                table = centred()
                table.machine.latches = [True] * 8
                self.lowered(table, b)


class Latch0(ResetCase):
    def test_clean_one_short_and_enough(self):
        for dt in (5, 6, 7):
            with self.subTest(dt=dt):
                table = flushed(dt=dt)
                table.machine.raise_latch(0)
                table.machine.clean = 8 - dt - 1
                self.refused(table, 0, -4)
                table.machine.clean = 8 - dt
                self.lowered(table, 0)

    def test_while_joined(self):
        table = centred()
        table.machine.raise_latch(0)
        self.lowered(table, 0)

    def test_through_the_interface(self):
        # The first two cells are read as air and stand among the three kept until the fourth move.
        calls = [LAY, [1, 2, 300]] + [[5, 1], [14, 0]] * 7
        told = answers_of(*calls)[3::2]
        self.assertEqual(told, [[-4], [-4], [-4], [-4], [-4], [0], [-3]])


class Latch1(ResetCase):
    def test_never(self):
        for table in (flushed(), joined(), centred()):
            table.machine.raise_latch(1)
            self.refused(table, 1, -4)

    def test_through_the_interface(self):
        raised = centring() + [[10, 1, 1, 101], [5, 9]]
        self.assertEqual(last_answer(*raised, [14, 1]), [-4])
        self.assertEqual(last_answer(*raised, [10, 1, 0, 0], [14, 1]), [-4])
        self.assertEqual(last_answer(*raised, [3, 0], [14, 1]), [-4])
        self.assertEqual(last_answer(*raised, [10, 1, 0, 0], [13], [14, 1]), [-3])


class Latch2(ResetCase):
    def test_streak(self):
        for streak in (1, 2, 3):
            with self.subTest(streak=streak):
                table = joined()
                table.machine.raise_latch(2)
                table.machine.streak = streak
                self.refused(table, 2, -4)
                table.machine.streak = 0
                self.lowered(table, 2)

    def test_through_the_interface(self):
        raised = centring() + [[9, 10], [9, 10], [9, 10]]
        self.assertEqual(last_answer(*raised, [14, 2]), [-4])
        self.assertEqual(last_answer(*raised, [9, 9], [14, 2]), [0])
        self.assertEqual(last_answer(*raised, [9, 9], [9, 10], [14, 2]), [-4])
        self.assertEqual(last_answer(*raised, [9, 9], [14, 2], [5, 1]), [1, 0, 0])


class Latches3And4(ResetCase):
    def up(self, last, centre, b):
        table = joined(p=50)
        table.machine.pressures = last
        table.machine.centre = centre
        table.machine.raise_latch(b)
        return table

    def test_a_with_no_centre(self):
        for a in (-1000, -301, 101, 1000):
            self.refused(self.up((a, 200), None, 3), 3, -4)
        for a in (-300, 0, 100):
            self.lowered(self.up((a, 200), None, 3), 3)

    def test_v_with_no_centre(self):
        for v in (-1000, 9, 401, 1000):
            self.refused(self.up((0, v), None, 4), 4, -4)
        for v in (10, 200, 400):
            self.lowered(self.up((0, v), None, 4), 4)

    def test_a_by_the_centre(self):
        for a in (-151, -49):
            self.refused(self.up((a, 200), (-100, 200), 3), 3, -4)
        for a in (-150, -100, -50):
            self.lowered(self.up((a, 200), (-100, 200), 3), 3)

    def test_v_by_the_centre(self):
        for v in (149, 251):
            self.refused(self.up((-100, v), (-100, 200), 4), 4, -4)
        for v in (150, 200, 250):
            self.lowered(self.up((-100, v), (-100, 200), 4), 4)

    def test_each_by_its_own_pressure(self):
        self.lowered(self.up((0, 1000), None, 3), 3)
        self.lowered(self.up((1000, 200), None, 4), 4)
        self.lowered(self.up((-100, 399), (-100, 200), 3), 3)
        self.lowered(self.up((99, 200), (-100, 200), 4), 4)

    def test_no_last_pressures(self):
        for centre in (None, (-100, 200)):
            self.lowered(self.up(None, centre, 3), 3)
            self.lowered(self.up(None, centre, 4), 4)

    def test_while_not_joined(self):
        for b, last in [(3, (101, 200)), (4, (0, 9))]:
            table = self.up(None, None, b)
            table.sink(0)
            self.lowered(table, b)
            table.machine.raise_latch(b)
            table.press(*last)
            self.refused(table, b, -4)

    def test_new_pressures_through_the_interface(self):
        raised = centring() + [[7, -151, 251]]
        self.assertEqual(last_answer(*raised), [24])
        self.assertEqual(answers_of(*raised, [14, 3], [14, 4])[-2:], [[-4], [-4]])
        mended = raised + [[7, -150, 251], [14, 3]]
        self.assertEqual(last_answer(*mended), [16])
        self.assertEqual(last_answer(*mended, [14, 4]), [-4])
        self.assertEqual(last_answer(*mended, [7, -150, 250], [14, 4]), [0])
        self.assertEqual(last_answer(*mended, [7, -150, 250], [14, 4], [5, 1]), [1, 0, 0])

    def test_by_the_centre_as_it_is_now(self):
        # The pressures that raised both latches become the centre, and so aren't bad any more.
        raised = centring() + [[7, -40, 260]]
        self.assertEqual(last_answer(*raised), [24])
        self.assertEqual(last_answer(*raised, [14, 3]), [-4])
        self.assertEqual(answers_of(*raised, [8], [14, 3], [14, 4])[-3:], [[0], [16], [0]])

    def test_a_change_of_the_sink_forgets_them(self):
        raised = centring() + [[7, 500, 500]]
        self.assertEqual(answers_of(*raised, [3, 0], [14, 3], [14, 4], [3, 1])[-4:], [[0], [16], [0], [0]])


class Latch5(ResetCase):
    def test_u(self):
        for u in (1, 500):
            with self.subTest(u=u):
                table = joined()
                table.machine.raise_latch(5)
                table.ultra(u)
                self.refused(table, 5, -4)
                table.ultra(0)
                self.lowered(table, 5)

    def test_thick_still_is_no_hindrance(self):
        table = flushed(h=600)
        table.source(2, 601)
        self.assertEqual(table.move(3), [3, 32])
        self.lowered(table, 5)
        self.assertEqual(table.move(1), [1, 32])

    def test_through_the_interface(self):
        # 300 of red with 700 of water less 500 are 600 in a thousand.
        raised = centring(k=599) + [[4, 500], [5, 9]]
        self.assertEqual(last_answer(*raised), [1, 32, 0])
        self.assertEqual(last_answer(*raised, [14, 5]), [-4])
        self.assertEqual(last_answer(*raised, [4, 1], [14, 5]), [-4])
        self.assertEqual(last_answer(*raised, [4, 0], [14, 5]), [0])
        self.assertEqual(last_answer(*raised, [4, 0], [14, 5], [5, 1]), [1, 0, 0])


class Latch6(ResetCase):
    def up(self, table, uncentred):
        table.machine.raise_latch(6)
        table.machine.uncentred = uncentred
        return table

    def test_joined_with_no_centre(self):
        for uncentred in (0, 10):
            self.refused(self.up(joined(), uncentred), 6, -4)

    def test_joined_with_a_centre(self):
        self.lowered(self.up(centred(), 10), 6, uncentred=0)
        self.lowered(self.up(centred(), 0), 6)

    def test_not_joined_with_no_centre(self):
        for x in (0, 2):
            table = flushed()
            table.sink(x)
            self.lowered(self.up(table, 10), 6, uncentred=0)

    def test_no_other_latch_touches_uncentred(self):
        for b in (0, 2, 3, 4, 5):
            table = self.up(joined(), 7)
            table.machine.raise_latch(b)
            self.lowered(table, b)

    def test_last_pressures_are_no_centre(self):
        table = self.up(joined(), 10)
        table.press(-100, 200)
        self.refused(table, 6, -4)

    def test_through_the_interface(self):
        raised = joining() + [[5, 100]]
        self.assertEqual(last_answer(*raised), [10, 64] + [0] * 10)
        self.assertEqual(last_answer(*raised, [14, 6]), [-4])
        self.assertEqual(last_answer(*raised, [7, -100, 200], [14, 6]), [-4])
        centre = raised + [[7, -100, 200], [8], [14, 6]]
        self.assertEqual(last_answer(*centre), [0])
        self.assertEqual(last_answer(*centre, [5, 20]), [20, 0] + [0] * 20)
        let_go = raised + [[3, 0], [14, 6]]
        self.assertEqual(last_answer(*let_go), [0])
        self.assertEqual(last_answer(*let_go, [3, 1], [5, 20]), [10, 64] + [0] * 10)


class Latch7(ResetCase):
    def test_never(self):
        for table in (flushed(), joined(), centred(), Table()):
            table.machine.raise_latch(7)
            self.refused(table, 7, -4)

    def test_only_a_new_line_lowers_it(self):
        raised = centring() + [[6, 61]]
        self.assertEqual(last_answer(*raised), [128])
        self.assertEqual(last_answer(*raised, [14, 7]), [-4])
        self.assertEqual(last_answer(*raised, [3, 0], [5, 20], [14, 7]), [-4])
        self.assertEqual(last_answer(*raised, [3, 0], [1, 0, 0], [5, 20], [6, 1], [14, 7]), [-4])
        self.assertEqual(last_answer(*raised, [3, 0], LAY, [14, 7]), [-3])
        self.assertEqual(last_answer(*raised, [3, 0], LAY, [15])[0], 0)


if __name__ == "__main__":
    unittest.main()
