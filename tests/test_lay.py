"""Promise 0: lay."""

import unittest

from bloodline.state import Machine
from tests.support import Table, centred, flushed, joined, last_answer, picture, settings, triple


class NewObject(unittest.TestCase):
    def test_all_is_nothing(self):
        machine = picture(Machine())
        three = {"red": 0, "water": 0, "air": 0}
        totals = {
            "from_patient": three, "bag_water": 0, "air_in": 0, "given_back": three, "spilt": three,
            "drained": three, "thrown_away": three, "dialysed": 0, "vented": 0, "moves": 0, "lines": 0,
        }
        self.assertEqual(machine, {
            "settings": None, "cells": [], "source": 0, "h": 0, "bag": 0, "sink": 0, "u": 0, "caught": 0,
            "stuck": [None, None], "artery_slipped": False, "vein_slipped": False, "readings": [], "clean": 0,
            "unlike": 0, "streak": 0, "pressures": None, "centre": None, "uncentred": 0, "still": 0,
            "latches": [False] * 8, "totals": totals,
        })


class FirstLine(unittest.TestCase):
    def test_answer(self):
        self.assertEqual(last_answer([0] + settings()), [0])

    def test_settings_in_their_order(self):
        table = Table()
        numbers = [64, 9, 10, 11, 12, 13, 14, 15, 16, 17, 18, 19, 20]
        self.assertEqual(table.call(0, *numbers), [0])
        laid = table.machine.settings
        named = [
            laid.n, laid.dz, laid.ch, laid.dt, laid.w, laid.t, laid.s, laid.d, laid.room, laid.k, laid.leak,
            laid.p, laid.z,
        ]
        self.assertEqual(named, numbers)

    def test_cells_are_full_of_air(self):
        for n in (8, 64):
            self.assertEqual(Table(n=n).cells(), [(0, 0, 1000)] * n)

    def test_cells_are_not_one_and_the_same(self):
        table = Table()
        table.set_cell(3, 1, 2, 3)
        self.assertEqual(table.cell(4), (0, 0, 1000))

    def test_totals(self):
        totals = Table(n=9).machine.totals
        self.assertEqual((totals.air_in, totals.lines, totals.moves, totals.vented), (9000, 1, 0, 0))
        self.assertEqual(triple(totals.thrown_away), (0, 0, 0))


class AnotherLine(unittest.TestCase):
    def used(self):
        """A line with something in all that lay resets."""
        table = centred(n=10, dt=6, room=1000000)
        table.bag(70000)
        table.ultra(7)
        table.wait(50)
        machine = table.machine
        table.sink(2)
        table.press(1, 2)
        table.stick(3, None)
        table.slip(0, 1)
        table.slip(1, 1)
        machine.clean, machine.unlike, machine.streak, machine.uncentred, machine.still = 1, 1, 2, 5, 9
        machine.centre = (1, 20)
        machine.latches = [True] * 8
        return table

    def test_the_guard_forgets(self):
        table = self.used()
        self.assertEqual(table.lay(), [0])
        machine = table.machine
        self.assertEqual(machine.sink, 0)
        self.assertEqual(machine.readings, [])
        counts = (machine.clean, machine.unlike, machine.streak, machine.uncentred, machine.still)
        self.assertEqual(counts, (0, 0, 0, 0, 0))
        self.assertIsNone(machine.pressures)
        self.assertIsNone(machine.centre)
        self.assertEqual(machine.latches, [False] * 8)
        self.assertEqual(table.cells(), [(0, 0, 1000)] * 8)

    def test_the_rest_stays(self):
        table = self.used()
        table.lay()
        machine = table.machine
        self.assertEqual((machine.source, machine.h, machine.bag, machine.u), (2, 300, 70000, 7))
        self.assertEqual(machine.stuck, [3, None])
        self.assertTrue(machine.artery_slipped)
        self.assertTrue(machine.vein_slipped)

    def test_old_cells_are_thrown_away(self):
        table = Table()
        for i in range(8):
            table.set_cell(i, 1, 20, 300)
        table.lay(n=64)
        table.set_cell(63, 500, 0, 5)
        table.lay()
        self.assertEqual(triple(table.machine.totals.thrown_away), (8 + 500, 160, 2400 + 63000 + 5))

    def test_the_trap_is_vented(self):
        table = Table()
        table.move(3)
        self.assertEqual(table.machine.caught, 3000)
        table.lay()
        self.assertEqual(table.machine.caught, 0)
        self.assertEqual(table.machine.totals.vented, 3000)
        table.lay()
        self.assertEqual(table.machine.totals.vented, 3000)
        table.move(2)
        table.lay()
        self.assertEqual(table.machine.totals.vented, 5000)

    def test_totals_go_on(self):
        table = flushed()
        moves = table.machine.totals.moves
        drained = triple(table.machine.totals.drained)
        taken = triple(table.machine.totals.from_patient)
        air = table.machine.totals.air_in
        table.lay(n=20)
        totals = table.machine.totals
        self.assertEqual((totals.moves, totals.lines, totals.air_in), (moves, 2, air + 20000))
        self.assertEqual((triple(totals.drained), triple(totals.from_patient)), (drained, taken))

    def test_from_a_loop(self):
        table = Table()
        table.sink(2)
        self.assertEqual(table.lay(), [0])
        self.assertEqual(table.machine.sink, 0)

    def test_latches_come_down_through_the_interface(self):
        lay = [0] + settings()
        self.assertEqual(last_answer(lay, [5, 1], [7, 0, 50]), [1])
        self.assertEqual(last_answer(lay, [5, 1], lay, [7, 0, 50]), [0])


class Refused(unittest.TestCase):
    def test_while_joined(self):
        table = joined()
        before = table.picture()
        self.assertEqual(table.lay(), [-3])
        self.assertEqual(table.picture(), before)
        table.sink(0)
        self.assertEqual(table.lay(), [0])

    def test_a_million_lines(self):
        table = Table()
        table.machine.totals.lines = 999999
        self.assertEqual(table.lay(), [0])
        before = table.picture()
        self.assertEqual(table.lay(), [-4])
        self.assertEqual(table.picture(), before)

    def test_order(self):
        table = joined()
        table.machine.totals.lines = 1000000
        before = table.picture()
        self.assertEqual(table.lay(z=0), [-1])
        self.assertEqual(table.lay(dz=4), [-1])
        self.assertEqual(table.lay(), [-3])
        self.assertEqual(table.picture(), before)
        table.sink(0)
        self.assertEqual(table.lay(z=0), [-1])
        self.assertEqual(table.lay(), [-4])


if __name__ == "__main__":
    unittest.main()
