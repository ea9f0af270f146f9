"""Promises 7 and 8: press, centre."""

import unittest

from tests.support import Table, centred, flushed, joined, last_answer, settings

LAY = [0] + settings()


class PressJoined(unittest.TestCase):
    def test_a_beyond_its_limits(self):
        for a, number in [(-301, 8), (-300, 0), (100, 0), (101, 8), (-1000, 8), (1000, 8), (0, 0)]:
            with self.subTest(a=a):
                self.assertEqual(joined().press(a, 200), [number])

    def test_v_beyond_its_limits(self):
        for v, number in [(9, 16), (10, 0), (400, 0), (401, 16), (-1000, 16), (1000, 16), (200, 0)]:
            with self.subTest(v=v):
                self.assertEqual(joined().press(-100, v), [number])

    def test_both(self):
        table = joined()
        self.assertEqual(table.press(101, 9), [24])
        self.assertEqual(table.up(), [3, 4])

    def test_a_away_from_the_centre(self):
        for a, number in [(-151, 8), (-150, 0), (-50, 0), (-49, 8)]:
            with self.subTest(a=a):
                self.assertEqual(centred(-100, 200, p=50).press(a, 200), [number])

    def test_v_away_from_the_centre(self):
        for v, number in [(149, 16), (150, 0), (250, 0), (251, 16)]:
            with self.subTest(v=v):
                self.assertEqual(centred(-100, 200, p=50).press(-100, v), [number])

    def test_near_the_centre_but_beyond_the_limits(self):
        self.assertEqual(centred(100, 400, p=1000).press(101, 400), [8])
        self.assertEqual(centred(100, 400, p=1000).press(100, 401), [16])
        self.assertEqual(centred(-300, 10, p=1000).press(-301, 10), [8])
        self.assertEqual(centred(-300, 10, p=1000).press(-300, 9), [16])

    def test_p_at_its_ends(self):
        self.assertEqual(centred(-100, 200, p=1).press(-99, 201), [0])
        self.assertEqual(centred(-100, 200, p=1).press(-98, 202), [24])
        self.assertEqual(centred(-300, 10, p=1000).press(100, 400), [0])

    def test_last_pressures_are_no_centre(self):
        table = joined(p=1)
        table.press(-300, 400)
        self.assertEqual(table.press(100, 10), [0])

    def test_judged_by_the_centre_and_not_by_the_last(self):
        table = centred(-100, 200, p=50)
        self.assertEqual(table.press(-60, 240), [0])
        self.assertEqual(table.press(-140, 160), [0])
        self.assertEqual(table.press(-49, 200), [8])

    def test_latches_stay_up(self):
        table = joined()
        table.press(101, 200)
        self.assertEqual(table.press(-100, 401), [24])
        self.assertEqual(table.press(-100, 200), [24])

    def test_only_pressures_and_latches_change(self):
        table = centred()
        table.machine.raise_latch(7)
        before = table.picture()
        self.assertEqual(table.press(-1000, 1000), [128 + 24])
        latches = [False, False, False, True, True, False, False, True]
        self.assertEqual(table.picture(), {**before, "pressures": (-1000, 1000), "latches": latches})

    def test_stops_the_pump(self):
        table = centred()
        table.press(-100, 401)
        self.assertEqual(table.move(), [-3])


class PressNotJoined(unittest.TestCase):
    def test_no_latch_but_remembered(self):
        for x in (0, 2):
            table = flushed()
            table.sink(x)
            before = table.picture()
            self.assertEqual(table.press(1000, -1000), [0])
            self.assertEqual(table.picture(), {**before, "pressures": (1000, -1000)})

    def test_no_latch_away_from_the_centre(self):
        table = flushed(p=1)
        table.press(0, 100)
        table.centre()
        self.assertEqual(table.press(50, 150), [0])

    def test_answer_is_the_latches_number(self):
        self.assertEqual(last_answer(LAY, [7, 1000, 1000]), [0])
        self.assertEqual(last_answer(LAY, [5, 1], [7, 1000, 1000]), [1])

    def test_order(self):
        self.assertEqual(last_answer([7, -1001, 0]), [-1])
        self.assertEqual(last_answer([7, 0, 1001]), [-1])
        self.assertEqual(last_answer([7, 0, 0]), [-2])


class Centre(unittest.TestCase):
    def test_no_last_pressures(self):
        table = Table()
        before = table.picture()
        self.assertEqual(table.centre(), [-3])
        self.assertEqual(table.picture(), before)

    def test_limits(self):
        for a, v, answer in [
            (-301, 200, -4), (-300, 200, 0), (100, 200, 0), (101, 200, -4),
            (0, 9, -4), (0, 10, 0), (0, 400, 0), (0, 401, -4), (-1000, 1000, -4), (101, 9, -4),
        ]:
            with self.subTest(a=a, v=v):
                self.assertEqual(last_answer(LAY, [7, a, v], [8]), [answer])
                table = joined()
                table.press(a, v)
                before = table.picture()
                self.assertEqual(table.centre(), [answer])
                if answer == 0:
                    before = {**before, "centre": (a, v)}
                self.assertEqual(table.picture(), before)

    def test_uncentred_is_nothing_then(self):
        table = joined()
        table.press(-100, 200)
        table.move(7)
        self.assertEqual(table.machine.uncentred, 7)
        before = table.picture()
        self.assertEqual(table.centre(), [0])
        self.assertEqual(table.picture(), {**before, "uncentred": 0, "centre": (-100, 200)})

    def test_a_refusal_leaves_uncentred(self):
        table = joined()
        table.move(7)
        self.assertEqual(table.centre(), [-3])
        table.press(-100, 500)
        self.assertEqual(table.centre(), [-4])
        self.assertEqual(table.machine.uncentred, 7)

    def test_the_newest_pressures_are_meant(self):
        table = joined()
        table.press(-100, 200)
        table.press(-90, 210)
        table.centre()
        self.assertEqual(table.machine.centre, (-90, 210))

    def test_a_second_centre_takes_the_firsts_place(self):
        table = centred(-100, 200, p=50)
        table.press(-50, 250)
        self.assertEqual(table.centre(), [0])
        self.assertEqual(table.press(-1, 299), [0])
        self.assertEqual(table.press(-101, 200), [8])

    def test_far_from_the_old_centre_is_no_refusal(self):
        table = centred(-300, 10, p=1)
        table.press(100, 400)
        self.assertEqual(table.centre(), [0])
        self.assertEqual(table.machine.centre, (100, 400))
        self.assertEqual(table.up(), [3, 4])

    def test_no_arguments_so_no_line_is_the_first_refusal(self):
        self.assertEqual(last_answer([8]), [-2])


if __name__ == "__main__":
    unittest.main()
