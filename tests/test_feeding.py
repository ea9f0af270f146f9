"""Promises 1, 2 and 4: source, bag, ultra."""

import unittest

from tests.support import Table, joined, last_answer, settings

LAY = [0] + settings()


class Source(unittest.TestCase):
    def test_source_and_haematocrit(self):
        for x in (0, 1, 2):
            for h in (0, 421, 1000):
                with self.subTest(x=x, h=h):
                    table = Table()
                    self.assertEqual(table.source(x, h), [0])
                    self.assertEqual((table.machine.source, table.machine.h), (x, h))

    def test_only_these_two_change(self):
        table = joined()
        before = table.picture()
        self.assertEqual(table.source(1, 900), [0])
        self.assertEqual(table.picture(), {**before, "source": 1, "h": 900})

    def test_from_now_on(self):
        table = Table()
        table.move()
        table.source(2, 250)
        table.move()
        table.source(2, 400)
        table.move()
        self.assertEqual(table.cells()[:3], [(400, 600, 0), (250, 750, 0), (0, 0, 1000)])

    def test_a_thick_source_is_seen_through_the_interface(self):
        self.assertEqual(last_answer(LAY, [1, 2, 601], [5, 2]), [2, 1])
        self.assertEqual(last_answer(LAY, [1, 2, 601], [5, 3]), [3, 33])
        self.assertEqual(last_answer(LAY, [1, 2, 600], [5, 3]), [3, 1])


class Bag(unittest.TestCase):
    def test_only_the_bag_changes(self):
        table = joined()
        before = table.picture()
        self.assertEqual(table.bag(5000000), [0])
        self.assertEqual(table.picture(), {**before, "bag": 5000000})

    def test_a_new_bag_takes_the_old_ones_place(self):
        table = Table()
        table.bag(2500)
        table.source(1, 0)
        table.move()
        before = table.picture()
        self.assertEqual(table.bag(300), [0])
        self.assertEqual(table.picture(), {**before, "bag": 300})
        table.move()
        self.assertEqual(table.cell(0), (0, 300, 700))
        self.assertEqual(table.machine.totals.bag_water, 1300)


class Ultra(unittest.TestCase):
    def test_only_u_changes(self):
        table = joined()
        before = table.picture()
        self.assertEqual(table.ultra(500), [0])
        self.assertEqual(table.picture(), {**before, "u": 500})
        table.ultra(0)
        self.assertEqual(table.picture(), before)

    def test_thickness_through_the_interface(self):
        # 400 of red with 600 of water less 200 is just 500 in a thousand; with 201 less it's more.
        lay = [0] + settings(k=500)
        self.assertEqual(last_answer(lay, [1, 2, 400], [4, 200], [5, 3]), [3, 1])
        self.assertEqual(last_answer(lay, [1, 2, 400], [4, 201], [5, 3]), [3, 33])


if __name__ == "__main__":
    unittest.main()
