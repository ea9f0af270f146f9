"""Promise 5: move."""

import unittest

from tests.support import Table, centred, flushed, joined, last_answer, settings

LAY = [0] + settings()


class NotJoined(unittest.TestCase):
    def test_two_numbers(self):
        for count in (1, 2, 100):
            self.assertEqual(last_answer(LAY, [5, count]), [count, 1])
            self.assertEqual(last_answer(LAY, [3, 2], [5, count]), [count, 1])

    def test_as_many_moves_as_told(self):
        table = Table()
        table.move(3)
        self.assertEqual(table.machine.totals.moves, 3)
        table.move(100)
        self.assertEqual(table.machine.totals.moves, 103)

    def test_moves_whatever_is_up(self):
        for x in (0, 2):
            table = flushed()
            table.sink(x)
            table.machine.latches = [True] * 8
            self.assertEqual(table.move(100), [100, 255])

    def test_many_moves_are_like_one_by_one(self):
        one = flushed()
        many = flushed()
        one.ultra(10)
        many.ultra(10)
        for i in range(7):
            one.move()
        many.move(7)
        self.assertEqual(one.picture(), many.picture())


class Joined(unittest.TestCase):
    def test_air_of_each_cell_that_left(self):
        table = centred()
        for i, air in [(7, 5), (6, 0), (5, 7), (4, 11)]:
            table.set_cell(i, 0, 0, air)
        self.assertEqual(table.move(5), [5, 0, 5, 0, 7, 11, 0])

    def test_spilt_ones_too(self):
        table = centred()
        table.slip(1, 1)
        table.set_cell(7, 0, 0, 5)
        self.assertEqual(table.move(2), [2, 0, 5, 0])

    def test_the_longest(self):
        self.assertEqual(centred().move(100), [100, 0] + [0] * 100)

    def test_stops_in_the_middle_at_air(self):
        table = centred()
        table.set_cell(4, 0, 0, 500)
        moves = table.machine.totals.moves
        # The second move brings cell 4 to the detector; it's done whole, and none after it.
        self.assertEqual(table.move(10), [2, 1, 0, 0])
        self.assertEqual(table.machine.totals.moves, moves + 2)
        self.assertEqual(table.cell(6), (0, 0, 500))
        self.assertEqual(table.move(1), [-3])

    def test_stops_in_the_middle_uncentred(self):
        self.assertEqual(joined().move(100), [10, 64] + [0] * 10)

    def test_stops_in_the_middle_unlike(self):
        table = centred()
        table.stick(None, 101)
        self.assertEqual(table.move(100), [2, 2, 0, 0])

    def test_stops_in_the_middle_thick(self):
        table = centred()
        table.source(2, 601)
        self.assertEqual(table.move(100), [3, 32, 0, 0, 0])

    def test_the_move_that_raises_a_latch_does_all_its_steps(self):
        table = joined()
        table.move(8)
        table.wait(30)
        table.source(2, 700)
        table.stick(None, 600)
        table.machine.unlike = 1
        table.machine.uncentred = 9
        table.set_cell(1, 700, 300, 0)
        self.assertEqual(table.move(3), [1, 1 + 2 + 32 + 64, 0])
        self.assertEqual(table.machine.still, 0)

    def test_a_stop_at_the_last_move_is_no_shorter(self):
        self.assertEqual(joined().move(10), [10, 64] + [0] * 10)


class Refused(unittest.TestCase):
    def test_joined_and_latched(self):
        for number in range(8):
            table = centred()
            table.machine.raise_latch(number)
            before = table.picture()
            self.assertEqual(table.move(1), [-3])
            self.assertEqual(table.picture(), before)

    def test_goes_on_when_no_more_joined(self):
        table = centred()
        table.machine.raise_latch(4)
        self.assertEqual(table.move(1), [-3])
        table.sink(0)
        self.assertEqual(table.move(1), [1, 16])

    def test_too_many_moves(self):
        table = Table()
        table.machine.totals.moves = 1000000000 - 50
        before = table.picture()
        self.assertEqual(table.move(51), [-4])
        self.assertEqual(table.picture(), before)
        self.assertEqual(table.move(50), [50, 1])
        self.assertEqual(table.move(1), [-4])

    def test_moves_count_over_all_lines(self):
        table = Table()
        table.machine.totals.moves = 1000000000 - 1
        table.lay()
        self.assertEqual(table.move(2), [-4])
        self.assertEqual(table.move(1), [1, 1])

    def test_order(self):
        self.assertEqual(last_answer([5, 0]), [-1])
        self.assertEqual(last_answer([5, 1]), [-2])
        table = centred()
        table.machine.raise_latch(0)
        table.machine.totals.moves = 1000000000
        before = table.picture()
        self.assertEqual(table.move(0), [-1])
        self.assertEqual(table.move(101), [-1])
        self.assertEqual(table.move(1), [-3])
        self.assertEqual(table.picture(), before)
        table.sink(0)
        self.assertEqual(table.move(1), [-4])


if __name__ == "__main__":
    unittest.main()
