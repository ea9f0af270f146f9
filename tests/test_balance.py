"""Long rows of calls: nothing that comes in is lost, and what the state may hold is never left."""

import random
import unittest

from bloodline.guard import answers
from tests.support import Table, picture, settings, triple


def any_call(chance):
    place = chance.choice([1, 2, 3, 3, 4, 5, 5, 5, 5, 6, 7, 8, 8])
    if place == 1:
        return [1, chance.choice([0, 1, 2, 2, 2]), chance.choice([0, 300, 450, 1000])]
    if place == 2:
        return [2, chance.choice([0, 700, 30000])]
    if place == 3:
        return [3, chance.choice([0, 1, 1, 1, 2, 3])]
    if place == 4:
        return [4, chance.choice([0, 100, 500, 501])]
    if place == 5:
        return [5, chance.choice([0, 1, 3, 20])]
    if place == 6:
        return [6, chance.choice([1, 40, 3600])]
    if place == 7:
        return [7, chance.randint(-320, 120), chance.randint(0, 420)]
    return [8]


def any_settings(chance):
    n = chance.choice([8, 9, 20, 64])
    dz, ch, dt = sorted(chance.sample(range(1, n), 3))
    return settings(
        n=n, dz=dz, ch=ch, dt=dt, w=chance.randint(1, 32), room=chance.choice([0, 3000, 1000000]),
        k=chance.choice([1, 600, 1000]), d=chance.choice([0, 100]),
    )


def disturb(chance, machine):
    """What later calls do to the object."""
    machine.stuck = chance.choice([[None, None], [None, 0], [0, 0], [0, 0], [0, 0], [600, None]])
    machine.artery_slipped = chance.random() < 0.3
    machine.vein_slipped = chance.random() < 0.5
    if chance.random() < 0.5:
        machine.latches = [False] * 8


def all_in(machine):
    totals = machine.totals
    red, water, air = triple(totals.from_patient)
    return (red, water + totals.bag_water, air + totals.air_in)


def all_out_or_inside(machine):
    totals = machine.totals
    parts = [totals.given_back, totals.spilt, totals.drained, totals.thrown_away] + machine.cells
    red, water, air = [sum(numbers) for numbers in zip(*[triple(part) for part in parts])]
    return (red, water + totals.dialysed, air + totals.vented + machine.caught)


class Balance(unittest.TestCase):
    def check(self, machine):
        self.assertEqual(all_in(machine), all_out_or_inside(machine))
        laid = machine.settings
        self.assertEqual(len(machine.cells), laid.n)
        for cell in machine.cells:
            self.assertGreaterEqual(min(triple(cell)), 0)
            self.assertLessEqual(sum(triple(cell)), 1000)
        self.assertLessEqual(len(machine.readings), laid.w)
        self.assertTrue(0 <= machine.clean <= laid.n - laid.dt)
        self.assertTrue(0 <= machine.caught <= laid.room)
        self.assertTrue(0 <= machine.unlike <= 2)
        self.assertTrue(0 <= machine.uncentred <= 10)

    def test_nothing_is_lost(self):
        reached = {"joined": 0, "stopped": 0, "spilt": 0}
        for seed in range(100):
            chance = random.Random(seed)
            table = Table()
            for i in range(60):
                if i % 30 == 0:
                    table.call(0, *any_settings(chance))
                disturb(chance, table.machine)
                call = any_call(chance)
                before = picture(table.machine)
                answer = table.call(*call)
                if answer[0] < 0:
                    self.assertEqual(len(answer), 1)
                    self.assertEqual(picture(table.machine), before)
                reached["joined"] += table.machine.joined()
                reached["stopped"] += call[0] == 5 and 0 <= answer[0] < call[1]
                self.check(table.machine)
            reached["spilt"] += sum(triple(table.machine.totals.spilt)) > 0
        # A row of calls that never joins would try little.
        self.assertGreater(min(reached.values()), 10)

    def test_lists_of_calls_are_not_changed_and_answered_alike(self):
        for seed in range(40):
            chance = random.Random(seed)
            calls = [0] + any_settings(chance)
            for i in range(80):
                calls = calls + (any_call(chance) if i % 20 else [0] + any_settings(chance))
            kept = list(calls)
            first = answers(calls)
            self.assertEqual(calls, kept)
            self.assertEqual(answers(calls), first)


if __name__ == "__main__":
    unittest.main()
