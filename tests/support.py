"""What the tests share: a laid line, calls on one object, and a picture of all that it holds."""

from bloodline.guard import answer_call, answers
from bloodline.state import Machine

LOWEST = -2 ** 63
HIGHEST = 2 ** 63 - 1

SETTINGS = {
    "n": 8, "dz": 2, "ch": 4, "dt": 6, "w": 3, "t": 500, "s": 900, "d": 100,
    "room": 100000, "k": 600, "leak": 10, "p": 50, "z": 60,
}


def settings(**changes):
    """The arguments of lay: an ordinary line, but for what is named."""
    assert set(changes) <= set(SETTINGS)
    return list({**SETTINGS, **changes}.values())


def answers_of(*calls):
    """The answer of each call, asked through the interface, as a list of lists."""
    flat = answers([number for call in calls for number in call])
    found = []
    while flat:
        count = flat[0]
        found.append(flat[1:1 + count])
        flat = flat[1 + count:]
    assert len(found) == len(calls)
    return found


def last_answer(*calls):
    return answers_of(*calls)[-1]


def picture(value):
    """All that a value holds, so that two pictures are equal only if nothing changed."""
    if isinstance(value, list):
        return [picture(part) for part in value]
    if hasattr(value, "__dict__"):
        return {name: picture(part) for name, part in vars(value).items()}
    return value


def triple(amounts):
    return (amounts.red, amounts.water, amounts.air)


class Table:
    """One object and calls on it, with a way to set what only long rows of calls would bring about."""

    def __init__(self, **changes):
        self.machine = Machine()
        self.lay(**changes)

    def call(self, place, *arguments):
        return answer_call(self.machine, place, list(arguments))

    def lay(self, **changes):
        return self.call(0, *settings(**changes))

    def source(self, x, h):
        return self.call(1, x, h)

    def bag(self, v):
        return self.call(2, v)

    def sink(self, x):
        return self.call(3, x)

    def ultra(self, u):
        return self.call(4, u)

    def move(self, count=1):
        return self.call(5, count)

    def wait(self, seconds):
        return self.call(6, seconds)

    def press(self, a, v):
        return self.call(7, a, v)

    def centre(self):
        return self.call(8)

    def leak(self, x):
        return self.call(9, x)

    def fault(self, c, m, v):
        return self.call(10, c, m, v)

    def slip(self, which, m):
        return self.call(11, which, m)

    def vent(self):
        return self.call(12)

    def check(self):
        return self.call(13)

    def reset(self, b):
        return self.call(14, b)

    def look(self):
        return self.call(15)

    def totals(self):
        return self.call(17)

    def stick(self, first, second):
        """Each channel stuck at its number, or true where that's None."""
        for channel, number in enumerate([first, second]):
            assert self.fault(channel, 0 if number is None else 1, number or 0) == [0]

    def picture(self):
        return picture(self.machine)

    def cell(self, i):
        return triple(self.machine.cells[i])

    def cells(self):
        return [triple(cell) for cell in self.machine.cells]

    def set_cell(self, i, red, water, air):
        cell = self.machine.cells[i]
        cell.red, cell.water, cell.air = red, water, air

    def up(self):
        """The numbers of the latches that are up."""
        return [number for number, up in enumerate(self.machine.latches) if up]


def flushed(h=300, **changes):
    """A line full of the patient's blood, clean, with no latch up and not joined."""
    table = Table(**changes)
    table.source(2, h)
    # The longest line is longer than half of what one call may move.
    table.move(table.machine.settings.n)
    table.move(table.machine.settings.n)
    # The first move of every line raises latch 0.
    assert table.reset(0) == [0]
    return table


def joined(h=300, **changes):
    table = flushed(h, **changes)
    assert table.sink(1) == [0]
    return table


def centred(a=-100, v=200, **changes):
    table = joined(**changes)
    assert table.press(a, v) == [0]
    assert table.centre() == [0]
    return table


def joining(h=300, **changes):
    """The calls that lay a line, fill it with the patient's blood and join it, for use with answers."""
    return [[0] + settings(**changes), [1, 2, h], [5, 100], [14, 0], [3, 1]]


def centring(a=-100, v=200, **changes):
    return joining(**changes) + [[7, a, v], [8]]
