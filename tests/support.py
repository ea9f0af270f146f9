"""What the tests share: a laid line, calls on one object, and a picture of all that it holds."""

from bloodline.guard import answer_call, answers
from bloodline.state import Machine

LOWEST = -2 ** 63
HIGHEST = 2 ** 63 - 1

SETTINGS = {
    "n": 8, "dz": 2, "ch": 4, "dt": 6, "w": 3, "t": 500, "s": 900, "d": 100,
    "room": 100000, "k": 600, "leak": 10, "p": 50, "z": 60,
}


def settings(**changes):
    """The arguments of lay: an ordinary line, but for what is named."""
    assert set(changes) <= set(SETTINGS)
    return list({**SETTINGS, **changes}.values())


def answers_of(*calls):
    """The answer of each call, asked through the interface, as a list of lists."""
    flat = answers([number for call in calls for number in call])
    found = []
    while flat:
        count = flat[0]
        found.append(flat[1:1 + count])
        flat = flat[1 + count:]
    assert len(found) == len(calls)
    return found


def last_answer(*calls):
    return answers_of(*calls)[-1]


def picture(value):
    """All that a value holds, so that two pictures are equal only if nothing changed."""
    if isinstance(value, list):
        return [picture(part) for part in value]
    if hasattr(value, "__dict__"):
        return {name: picture(part) for name, part in vars(value).items()}
    return value


def triple(amounts):
    return (amounts.red, amounts.water, amounts.air)


class Table:
    """One object and calls on it; what no call of 0 to 8 reaches is set on the machine itself."""

    def __init__(self, **changes):
        self.machine = Machine()
        self.lay(**changes)

    def call(self, place, *arguments):
        return answer_call(self.machine, place, list(arguments))

    def lay(self, **changes):
        return self.call(0, *settings(**changes))

    def source(self, x, h):
        return self.call(1, x, h)

    def bag(self, v):
        return self.call(2, v)

    def sink(self, x):
        return self.call(3, x)

    def ultra(self, u):
        return self.call(4, u)

    def move(self, count=1):
        return self.call(5, count)

    def wait(self, seconds):
        return self.call(6, seconds)

    def press(self, a, v):
        return self.call(7, a, v)

    def centre(self):
        return self.call(8)

    def picture(self):
        return picture(self.machine)

    def cell(self, i):
        return triple(self.machine.cells[i])

    def cells(self):
        return [triple(cell) for cell in self.machine.cells]

    def set_cell(self, i, red, water, air):
        cell = self.machine.cells[i]
        cell.red, cell.water, cell.air = red, water, air

    def up(self):
        """The numbers of the latches that are up."""
        return [number for number, up in enumerate(self.machine.latches) if up]


def flushed(h=300, **changes):
    """A line full of the patient's blood, clean, with no latch up and not joined."""
    table = Table(**changes)
    table.source(2, h)
    table.move(table.machine.settings.n * 2)
    # The first move of every line raises latch 0, and no call of 0 to 8 but lay lowers one.
    table.machine.latches = [False] * 8
    return table


def joined(h=300, **changes):
    table = flushed(h, **changes)
    assert table.sink(1) == [0]
    return table


def centred(a=-100, v=200, **changes):
    table = joined(**changes)
    assert table.press(a, v) == [0]
    assert table.centre() == [0]
    return table
