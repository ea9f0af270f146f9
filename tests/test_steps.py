"""The eleven steps of one move."""

import unittest

from tests.support import Table, centred, flushed, joined, last_answer, settings, triple

LAY = [0] + settings()


class Step1NewCell(unittest.TestCase):
    def test_open_air(self):
        table = Table()
        table.set_cell(0, 1, 1, 1)
        table.move()
        self.assertEqual(table.cell(0), (0, 0, 1000))
        self.assertEqual(table.machine.totals.air_in, 9000)

    def test_bag(self):
        for left, water, rest in [(0, 0, 0), (1, 1, 0), (999, 999, 0), (1000, 1000, 0), (1001, 1000, 1)]:
            with self.subTest(left=left):
                table = Table()
                table.source(1, 500)
                table.bag(left)
                table.move()
                self.assertEqual(table.cell(0), (0, water, 1000 - water))
                self.assertEqual(table.machine.bag, rest)
                totals = table.machine.totals
                self.assertEqual((totals.bag_water, totals.air_in), (water, 8000 + 1000 - water))
                self.assertEqual(triple(totals.from_patient), (0, 0, 0))

    def test_bag_runs_empty_over_moves(self):
        table = Table()
        table.source(1, 0)
        table.bag(2400)
        table.move(4)
        self.assertEqual([table.cell(i)[1] for i in range(4)], [0, 400, 1000, 1000])
        self.assertEqual(table.machine.bag, 0)

    def test_patient(self):
        for h in (0, 1, 450, 1000):
            with self.subTest(h=h):
                table = Table()
                table.source(2, h)
                table.bag(5000)
                table.move(2)
                self.assertEqual(table.cell(0), (h, 1000 - h, 0))
                totals = table.machine.totals
                self.assertEqual(triple(totals.from_patient), (2 * h, 2000 - 2 * h, 0))
                self.assertEqual((totals.air_in, totals.bag_water, table.machine.bag), (8000, 0, 5000))

    def test_patient_with_the_arterys_needle_slipped(self):
        table = Table()
        table.source(2, 450)
        table.slip(0, 1)
        table.move()
        self.assertEqual(table.cell(0), (0, 0, 1000))
        self.assertEqual(table.machine.totals.air_in, 9000)
        self.assertEqual(triple(table.machine.totals.from_patient), (0, 0, 0))

    def test_the_arterys_needle_matters_for_the_patient_only(self):
        table = Table()
        table.source(1, 0)
        table.bag(5000)
        table.slip(0, 1)
        table.move()
        self.assertEqual(table.cell(0), (0, 1000, 0))

    def test_the_veins_needle_does_not_matter(self):
        table = Table()
        table.source(2, 450)
        table.slip(1, 1)
        table.move()
        self.assertEqual(table.cell(0), (450, 550, 0))

    def test_loop_whatever_the_source(self):
        for x in (0, 1, 2):
            with self.subTest(x=x):
                table = Table()
                table.set_cell(7, 12, 34, 56)
                table.source(x, 300)
                table.bag(5000)
                table.sink(2)
                before = table.picture()["totals"]
                table.move()
                self.assertEqual(table.cell(0), (12, 34, 56))
                self.assertEqual(table.machine.bag, 5000)
                # Nothing comes in and nothing leaves.
                self.assertEqual(table.picture()["totals"], {**before, "moves": 1})


class Step2LastCellLeaves(unittest.TestCase):
    def left(self, table):
        totals = table.machine.totals
        return triple(totals.drained), triple(totals.given_back), triple(totals.spilt)

    def moved(self, table):
        before = self.left(table)
        table.set_cell(7, 12, 34, 56)
        table.move()
        after = self.left(table)
        return [tuple(b - a for a, b in zip(one, two)) for one, two in zip(before, after)]

    def test_drain(self):
        self.assertEqual(self.moved(Table()), [(12, 34, 56), (0, 0, 0), (0, 0, 0)])

    def test_drain_with_the_veins_needle_slipped(self):
        table = Table()
        table.slip(1, 1)
        self.assertEqual(self.moved(table), [(12, 34, 56), (0, 0, 0), (0, 0, 0)])

    def test_patient(self):
        self.assertEqual(self.moved(joined()), [(0, 0, 0), (12, 34, 56), (0, 0, 0)])

    def test_patient_with_the_arterys_needle_slipped(self):
        table = joined()
        table.slip(0, 1)
        self.assertEqual(self.moved(table), [(0, 0, 0), (12, 34, 56), (0, 0, 0)])

    def test_spilt(self):
        table = joined()
        table.slip(1, 1)
        self.assertEqual(self.moved(table), [(0, 0, 0), (0, 0, 0), (12, 34, 56)])

    def test_loop(self):
        for slipped in (0, 1):
            table = Table()
            table.sink(2)
            table.slip(1, slipped)
            self.assertEqual(self.moved(table), [(0, 0, 0), (0, 0, 0), (0, 0, 0)])

    def test_it_is_the_last_cell_as_it_stood_before_the_move(self):
        table = joined()
        table.set_cell(6, 0, 0, 77)
        self.assertEqual(table.move(2), [2, 0, 0, 77])


class Step3CellsGoOn(unittest.TestCase):
    def test_each_goes_on_by_one(self):
        table = Table(room=0)
        for i in range(8):
            table.set_cell(i, i, 2 * i, 3 * i)
        table.move()
        self.assertEqual(table.cells(), [(0, 0, 1000)] + [(i, 2 * i, 3 * i) for i in range(7)])

    def test_loop_comes_round(self):
        table = Table(room=0)
        for i in range(8):
            table.set_cell(i, i, 2 * i, 3 * i)
        before = table.cells()
        table.sink(2)
        table.move(3)
        self.assertEqual(table.cells(), before[5:] + before[:5])
        table.move(5)
        self.assertEqual(table.cells(), before)
        self.assertEqual(len({id(cell) for cell in table.machine.cells}), 8)


class Step4Dialyser(unittest.TestCase):
    def test_the_smaller_of_u_and_the_water(self):
        for u, water, taken in [(0, 50, 0), (49, 50, 49), (50, 50, 50), (51, 50, 50), (500, 0, 0), (500, 1000, 500)]:
            with self.subTest(u=u, water=water):
                table = Table()
                table.ultra(u)
                # Cell 1 is the one that comes to dz, which is 2.
                table.set_cell(1, 0, water, 0)
                table.move()
                self.assertEqual(table.cell(2), (0, water - taken, 0))
                self.assertEqual(table.machine.totals.dialysed, taken)

    def test_no_other_cell(self):
        table = Table()
        table.ultra(100)
        for i in range(8):
            table.set_cell(i, 0, 600, 0)
        table.move()
        self.assertEqual([table.cell(i)[1] for i in range(8)], [0, 600, 500, 600, 600, 600, 600, 600])

    def test_each_cell_that_comes_by(self):
        table = Table()
        table.source(2, 300)
        table.ultra(100)
        table.move(8)
        self.assertEqual([cell[1] for cell in table.cells()], [700, 700] + [600] * 6)
        self.assertEqual(table.machine.totals.dialysed, 600)

    def test_red_and_air_stay(self):
        table = Table()
        table.ultra(100)
        table.set_cell(1, 200, 300, 400)
        table.move()
        self.assertEqual(table.cell(2), (200, 200, 400))


class Step5Trap(unittest.TestCase):
    def test_the_smaller_of_the_air_and_the_room(self):
        rows = [(0, 50, 0), (49, 50, 49), (50, 50, 50), (51, 50, 50), (1000000, 1000, 1000), (500, 0, 0)]
        for room, air, taken in rows:
            with self.subTest(room=room, air=air):
                table = Table(room=room)
                table.set_cell(3, 0, 0, air)
                table.move()
                self.assertEqual(table.cell(4), (0, 0, air - taken))
                self.assertEqual(table.machine.caught, taken)

    def test_what_is_caught_takes_room(self):
        table = Table(room=2500)
        caught = []
        for i in range(4):
            table.move()
            caught.append((table.machine.caught, 1000 - table.cell(4)[2]))
        self.assertEqual(caught, [(1000, 1000), (2000, 1000), (2500, 500), (2500, 0)])

    def test_red_and_water_stay(self):
        table = Table()
        table.set_cell(3, 200, 300, 400)
        table.move()
        self.assertEqual(table.cell(4), (200, 300, 0))

    def test_no_other_cell(self):
        table = Table()
        table.move()
        self.assertEqual([cell[2] for cell in table.cells()], [1000, 1000, 1000, 1000, 0, 1000, 1000, 1000])

    def test_catching_is_not_venting(self):
        table = Table()
        table.move(5)
        self.assertEqual(table.machine.totals.vented, 0)


class Step6Detector(unittest.TestCase):
    def test_the_reading_is_the_greater(self):
        for stuck, reading in [
            ([None, None], 70), ([None, 60], 70), ([None, 80], 80), ([60, None], 70), ([80, None], 80),
            ([10, 20], 20), ([20, 10], 20), ([0, 0], 0),
        ]:
            with self.subTest(stuck=stuck):
                table = flushed()
                table.stick(*stuck)
                table.set_cell(5, 0, 0, 70)
                table.move()
                self.assertEqual(table.machine.readings, [reading, 0, 0])

    def test_only_the_cell_at_the_detector(self):
        table = flushed()
        for i in (4, 6, 7):
            table.set_cell(i, 0, 0, 70)
        table.move()
        self.assertEqual(table.machine.readings, [0, 0, 0])

    def test_it_reads_behind_the_trap(self):
        # The trap stands right before the detector here, so what it left is read a move later.
        table = Table(ch=5, room=1700)
        table.move(3)
        self.assertEqual(table.machine.readings, [300, 0, 1000])

    def test_newest_first_and_the_newest_w_kept(self):
        for w in (1, 2, 32):
            with self.subTest(w=w):
                table = Table(w=w)
                read = []
                for number in range(40):
                    table.set_cell(5, 0, 0, number)
                    table.move()
                    read.insert(0, number)
                    self.assertEqual(table.machine.readings, read[:w])


class Step7Good(unittest.TestCase):
    def moved(self, readings, air, **changes):
        table = flushed(**changes)
        table.machine.readings = readings
        table.machine.clean = 1
        table.set_cell(5, 0, 0, air)
        table.move()
        return table.machine.clean, table.up()

    def test_less_than_t(self):
        self.assertEqual(self.moved([0, 0, 0], 499), (2, []))
        self.assertEqual(self.moved([0, 0, 0], 500), (0, [0]))
        self.assertEqual(self.moved([0, 0, 0], 501), (0, [0]))

    def test_sum_less_than_s(self):
        self.assertEqual(self.moved([400, 400, 0], 99), (2, []))
        self.assertEqual(self.moved([400, 400, 0], 100), (0, [0]))
        self.assertEqual(self.moved([400, 400, 0], 101), (0, [0]))

    def test_a_reading_no_more_kept_is_not_in_the_sum(self):
        self.assertEqual(self.moved([0, 400, 499], 400), (2, []))

    def test_t_is_for_the_newest_only(self):
        self.assertEqual(self.moved([800, 0, 0], 0), (2, []))

    def test_widest_and_narrowest_settings(self):
        self.assertEqual(self.moved([0, 0, 0], 999, t=1000, s=1000), (2, []))
        self.assertEqual(self.moved([0, 0, 0], 1000, t=1000, s=32000), (0, [0]))
        self.assertEqual(self.moved([0, 0, 0], 0, t=1, s=1), (2, []))
        self.assertEqual(self.moved([0, 0, 0], 1, t=1, s=900), (0, [0]))
        self.assertEqual(self.moved([0, 0, 0], 1, t=500, s=1), (0, [0]))

    def test_clean_never_beyond_n_less_dt(self):
        for dt in (5, 6, 7):
            with self.subTest(dt=dt):
                table = flushed(dt=dt)
                table.machine.clean = 0
                seen = []
                for i in range(5):
                    table.move()
                    seen.append(table.machine.clean)
                self.assertEqual(seen, [min(i + 1, 8 - dt) for i in range(5)])

    def test_a_good_reading_leaves_the_latch_up(self):
        table = Table()
        table.source(2, 300)
        table.move(20)
        self.assertEqual((table.machine.clean, table.up()), (2, [0]))

    def test_the_first_move_of_a_line_raises_latch_0(self):
        self.assertEqual(last_answer(LAY, [5, 1]), [1, 1])
        self.assertEqual(last_answer([0] + settings(t=1000, s=32000), [5, 1]), [1, 1])


class Step8Unlike(unittest.TestCase):
    def moved(self, stuck, times, **changes):
        table = flushed(**changes)
        table.stick(*stuck)
        seen = []
        for i in range(times):
            table.move()
            seen.append((table.machine.unlike, 1 in table.up()))
        return seen

    def test_more_than_d_apart(self):
        self.assertEqual(self.moved([None, 101], 4), [(1, False), (2, True), (2, True), (2, True)])
        self.assertEqual(self.moved([101, None], 2), [(1, False), (2, True)])
        self.assertEqual(self.moved([300, 401], 2), [(1, False), (2, True)])
        self.assertEqual(self.moved([401, 300], 2), [(1, False), (2, True)])

    def test_just_d_apart(self):
        self.assertEqual(self.moved([None, 100], 3), [(0, False)] * 3)
        self.assertEqual(self.moved([100, None], 3), [(0, False)] * 3)

    def test_d_at_its_ends(self):
        self.assertEqual(self.moved([None, 1], 2, d=0), [(1, False), (2, True)])
        self.assertEqual(self.moved([None, 0], 2, d=0), [(0, False)] * 2)
        self.assertEqual(self.moved([0, 1000], 2, d=1000), [(0, False)] * 2)

    def test_both_true_never_differ(self):
        self.assertEqual(self.moved([None, None], 3, d=0), [(0, False)] * 3)

    def test_alike_in_between_begins_anew(self):
        table = flushed()
        table.stick(None, 101)
        table.move()
        table.stick(None, 0)
        table.move()
        self.assertEqual(table.machine.unlike, 0)
        table.stick(None, 101)
        table.move()
        self.assertEqual((table.machine.unlike, table.up()), (1, []))

    def test_alike_leaves_the_latch_up(self):
        table = flushed()
        table.stick(None, 101)
        table.move(2)
        table.stick(None, None)
        table.move()
        self.assertEqual((table.machine.unlike, table.up()), (0, [1]))


class Step9Thick(unittest.TestCase):
    def up(self, red, water, air=0, u=0, **changes):
        table = flushed(h=0, **changes)
        table.ultra(u)
        table.set_cell(1, red, water, air)
        table.move()
        return table.up()

    def test_more_than_k_thousandths(self):
        self.assertEqual(self.up(600, 400), [])
        self.assertEqual(self.up(601, 399), [5])
        self.assertEqual(self.up(3, 2), [])
        self.assertEqual(self.up(4, 2), [5])

    def test_air_does_not_thin(self):
        self.assertEqual(self.up(61, 39, air=900), [5])

    def test_after_the_dialyser(self):
        self.assertEqual(self.up(400, 600, u=200, k=500), [])
        self.assertEqual(self.up(400, 600, u=201, k=500), [5])

    def test_no_red_is_never_too_thick(self):
        self.assertEqual(self.up(0, 0, air=1000, k=1), [])
        self.assertEqual(self.up(0, 5, k=1), [])

    def test_k_at_its_ends(self):
        self.assertEqual(self.up(1, 999, k=1), [])
        self.assertEqual(self.up(2, 998, k=1), [5])
        self.assertEqual(self.up(1000, 0, k=1000), [])
        self.assertEqual(self.up(1000, 0, k=999), [5])

    def test_only_the_cell_at_the_dialyser(self):
        table = flushed(h=0)
        for i in (0, 2, 3, 4, 5, 6, 7):
            table.set_cell(i, 900, 100, 0)
        table.move()
        self.assertEqual(table.up(), [])


class Step10Uncentred(unittest.TestCase):
    def test_grows_while_joined_with_no_centre(self):
        table = joined()
        seen = []
        for i in range(10):
            table.move()
            seen.append((table.machine.uncentred, table.up()))
        self.assertEqual(seen, [(i, []) for i in range(1, 10)] + [(10, [6])])

    def test_never_beyond_ten(self):
        table = joined()
        table.machine.uncentred = 10
        table.move()
        self.assertEqual((table.machine.uncentred, table.up()), (10, [6]))

    def test_not_with_a_centre(self):
        table = centred()
        table.move(30)
        self.assertEqual((table.machine.uncentred, table.up()), (0, []))

    def test_last_pressures_are_no_centre(self):
        table = joined()
        table.press(-100, 200)
        table.move(10)
        self.assertEqual(table.up(), [6])

    def test_not_while_not_joined(self):
        for x in (0, 2):
            table = flushed()
            table.sink(x)
            table.move(30)
            self.assertEqual((table.machine.uncentred, table.up()), (0, []))

    def test_a_centre_begins_anew(self):
        table = joined()
        table.move(9)
        table.press(-100, 200)
        table.centre()
        self.assertEqual(table.move(5), [5, 0, 0, 0, 0, 0, 0])


class Step11Still(unittest.TestCase):
    def test_becomes_nothing(self):
        for x in (0, 1, 2):
            table = flushed()
            table.sink(x)
            table.wait(30)
            self.assertEqual(table.machine.still, 30)
            table.move()
            self.assertEqual(table.machine.still, 0)

    def test_through_the_interface(self):
        blood = [LAY, [1, 2, 300], [5, 1]]
        self.assertEqual(last_answer(*blood, [6, 60], [6, 1]), [129])
        self.assertEqual(last_answer(*blood, [6, 60], [5, 1], [6, 1]), [1])


if __name__ == "__main__":
    unittest.main()
