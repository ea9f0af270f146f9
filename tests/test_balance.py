"""Long rows of calls: nothing that comes in is lost, and what the state may hold is never left."""

import random
import unittest

from bloodline.guard import answers
from tests.support import Table, answers_of, picture, settings, triple


def any_settings(chance):
    n = chance.choice([8, 9, 20, 64])
    dz, ch, dt = sorted(chance.sample(range(1, n), 3))
    return settings(
        n=n, dz=dz, ch=ch, dt=dt, w=chance.randint(1, 32), room=chance.choice([0, 3000, 1000000]),
        k=chance.choice([1, 600, 1000]), d=chance.choice([0, 100]),
    )


def any_call(chance):
    place = chance.choice([1, 2, 3, 4, 5, 5, 5, 5, 5, 6, 7, 8, 9, 10, 11, 12, 13, 14, 14, 15, 16, 17])
    arguments = {
        1: [[0, 1, 2, 2, 2], [0, 300, 450, 1000]],
        2: [[0, 700, 30000]],
        3: [[0, 1, 1, 1, 1, 1, 2, 3]],
        4: [[0, 0, 100, 500, 501]],
        5: [[0, 1, 3, 20]],
        6: [[1, 40, 3600]],
        7: [[-301, -200, -100, 0, 100, 101], [9, 10, 100, 200, 400, 401]],
        9: [[0, 10, 10, 10, 11]],
        10: [[0, 1], [0, 0, 1], [0, 0, 50, 600]],
        11: [[0, 1], [0, 1]],
        14: [[0, 1, 2, 3, 4, 5, 6, 7]],
        16: [[0, 7, 20, 63, 64]],
    }
    return [place] + [chance.choice(numbers) for numbers in arguments.get(place, [])]


def calls_that_join(chance):
    """A new line, flushed with salt water or blood, with all made well, joined, and centred half of the time."""
    feeding = chance.choice([[1, 1, 0], [1, 2, 300]])
    calls = [[3, 0], [0] + any_settings(chance), [4, 0], [10, 0, 0, 0], [10, 1, 0, 0], [11, 0, 0], [2, 5000000]]
    calls += [feeding, [5, 100], [5, 40], [14, 0], [14, 5], [3, 1]]
    return calls + chance.choice([[], [[7, -100, 200], [8]]])


def calls_that_bubble(chance):
    """One cell with less air than the guard minds, and more than a full trap can take, sent on to the end."""
    return [[11, 1, chance.randint(0, 1)], [1, 1, 0], [2, 950], [5, 1], [2, 500000], [5, 60], [5, 40]]


def any_list(chance, length):
    calls = [[0] + any_settings(chance)]
    while len(calls) < length:
        calls += calls_that_join(chance) + chance.choice([[], calls_that_bubble(chance)])
        calls += [any_call(chance) for i in range(chance.randint(0, 40))]
    return calls[:length]


def cells_told(told):
    return [answer[1:] for answer in told if answer != [-3]]


def all_in_as_told(totals):
    return [totals[1], totals[2] + totals[4], totals[3] + totals[5]]


def all_out_or_inside_as_told(totals, look, cells):
    red, water, air = [sum(totals[first:18:3]) + sum(cell[first - 6] for cell in cells) for first in (6, 7, 8)]
    return [red, water + totals[18], air + totals[19] + look[9]]


class ThroughTheInterface(unittest.TestCase):
    ASKING = [[17], [15]] + [[16, i] for i in range(64)]

    def test_what_came_in_is_out_or_inside(self):
        reached = [0] * 22
        for seed in range(60):
            calls = any_list(random.Random(seed), 400 - len(self.ASKING))
            for cut in (1, 60, 150, 240, len(calls)):
                told = answers_of(*calls[:cut], *self.ASKING)[cut:]
                totals, look, cells = told[0], told[1], cells_told(told[2:])
                self.assertIn(len(cells), (8, 9, 20, 64))
                self.assertEqual(all_in_as_told(totals), all_out_or_inside_as_told(totals, look, cells), (seed, cut))
                self.assertGreaterEqual(min(totals + look), 0)
                for cell in cells:
                    self.assertGreaterEqual(min(cell), 0)
                    self.assertLessEqual(sum(cell), 1000)
                reached = [before + (number > 0) for before, number in zip(reached, totals)]
        # The 0 ahead and the patient's air are always 0; all else is to be reached often.
        self.assertEqual((reached[0], reached[3]), (0, 0))
        self.assertGreater(min(reached[1:3] + reached[4:]), 10, reached)

    def test_lists_are_not_changed_and_answered_alike(self):
        for seed in range(30):
            calls = [number for call in any_list(random.Random(seed), 400) for number in call]
            self.assertLessEqual(len(calls), 6000)
            kept = list(calls)
            first = answers(calls)
            self.assertEqual(calls, kept)
            self.assertEqual(answers(calls), first)

    def test_a_list_is_answered_as_its_beginning_is(self):
        calls = any_list(random.Random(1), 200)
        whole = answers_of(*calls)
        for cut in range(1, 200, 7):
            self.assertEqual(answers_of(*calls[:cut]), whole[:cut])


class OnTheObject(unittest.TestCase):
    def check_state(self, machine):
        laid = machine.settings
        self.assertEqual(len(machine.cells), laid.n)
        for cell in machine.cells:
            self.assertGreaterEqual(min(triple(cell)), 0)
            self.assertLessEqual(sum(triple(cell)), 1000)
        self.assertLessEqual(len(machine.readings), laid.w)
        self.assertTrue(0 <= machine.clean <= laid.n - laid.dt)
        self.assertTrue(0 <= machine.caught <= laid.room)
        self.assertTrue(0 <= machine.unlike <= 2)
        self.assertTrue(0 <= machine.streak <= 3)
        self.assertTrue(0 <= machine.uncentred <= 10)

    def test_refusals_leave_the_object_and_nothing_goes_beyond_its_bounds(self):
        reached = {"joined": 0, "stopped": 0, -1: 0, -3: 0, -4: 0}
        latches = [0] * 8
        for seed in range(60):
            table = Table()
            for call in any_list(random.Random(seed), 150):
                before = picture(table.machine)
                answer = table.call(*call)
                if answer[0] < 0:
                    self.assertEqual(len(answer), 1)
                    self.assertEqual(picture(table.machine), before)
                    reached[answer[0]] += 1
                reached["joined"] += table.machine.joined()
                reached["stopped"] += call[0] == 5 and 0 <= answer[0] < call[1]
                latches = [count + up for count, up in zip(latches, table.machine.latches)]
                self.check_state(table.machine)
        # A row of calls that never joins would try little.
        self.assertGreater(min(reached.values()), 10, reached)
        self.assertGreater(min(latches), 10, latches)


if __name__ == "__main__":
    unittest.main()
