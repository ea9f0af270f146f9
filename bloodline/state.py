"""What one object holds: the line, what feeds it, what its guard remembers, and the totals."""

SOURCE_BAG = 1
SOURCE_PATIENT = 2

SINK_DRAIN = 0
SINK_PATIENT = 1
SINK_LOOP = 2

FULL_CELL = 1000

LATCH_AIR = 0
LATCH_UNLIKE = 1
LATCH_LEAK = 2
LATCH_PRESSURE_A = 3
LATCH_PRESSURE_V = 4
LATCH_THICK = 5
LATCH_UNCENTRED = 6
LATCH_STILL = 7


class Amounts:
    """Red, water and air in microlitres: those of one cell, or a total of many."""

    def __init__(self, red, water, air):
        self.red = red
        self.water = water
        self.air = air

    def take_in(self, other):
        self.red += other.red
        self.water += other.water
        self.air += other.air


class Settings:
    """The thirteen settings of a laid line, under the document's letters."""

    def __init__(self, arguments):
        self.n = arguments[0]
        self.dz = arguments[1]
        self.ch = arguments[2]
        self.dt = arguments[3]
        self.w = arguments[4]
        self.t = arguments[5]
        self.s = arguments[6]
        self.d = arguments[7]
        self.room = arguments[8]
        self.k = arguments[9]
        self.leak = arguments[10]
        self.p = arguments[11]
        self.z = arguments[12]

    def clean_needed(self):
        """How many good readings in a row show that all cells behind the detector are clean."""
        return self.n - self.dt


class Totals:
    """What has come, gone and been done since the object was new."""

    def __init__(self):
        self.from_patient = Amounts(0, 0, 0)
        self.bag_water = 0
        self.air_in = 0
        self.given_back = Amounts(0, 0, 0)
        self.spilt = Amounts(0, 0, 0)
        self.drained = Amounts(0, 0, 0)
        self.thrown_away = Amounts(0, 0, 0)
        self.dialysed = 0
        self.vented = 0
        self.moves = 0
        self.lines = 0


class Machine:
    """One object: new when made, and changed by the calls alone."""

    def __init__(self):
        # None while no line is laid.
        self.settings = None
        self.cells = []
        self.source = 0
        self.h = 0
        self.bag = 0
        self.sink = 0
        self.u = 0
        self.caught = 0
        # For each channel None while it's true, else the number that it's stuck at.
        self.stuck = [None, None]
        self.artery_slipped = False
        self.vein_slipped = False
        self.readings = []
        self.clean = 0
        self.unlike = 0
        self.streak = 0
        # Pairs (a, v), or None where there are none.
        self.pressures = None
        self.centre = None
        self.uncentred = 0
        self.still = 0
        self.latches = [False] * 8
        self.totals = Totals()

    def joined(self):
        return self.sink == SINK_PATIENT

    def latched(self):
        return any(self.latches)

    def held(self):
        """Whether the guard keeps the pump from moving."""
        return self.joined() and self.latched()

    def raise_latch(self, number):
        self.latches[number] = True

    def lower_latch(self, number):
        self.latches[number] = False

    def latches_number(self):
        number = 0
        worth = 1
        for up in self.latches:
            if up:
                number += worth
            worth *= 2
        return number

    def vent_trap(self):
        """Let the caught air out, and answer how much it was."""
        let_out = self.caught
        self.caught = 0
        totals = self.totals
        totals.vented += let_out
        return let_out

    def forget_centring(self):
        self.pressures = None
        self.centre = None
        self.uncentred = 0
