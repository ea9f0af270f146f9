"""The calls 0 to 8, each on an object and arguments that are in range, answering a list of numbers."""

from bloodline.moving import one_move
from bloodline.pressures import A, V, is_bad, is_usual
from bloodline.state import Amounts, FULL_CELL, SINK_DRAIN, SINK_PATIENT, Settings
from bloodline.state import LATCH_PRESSURE_A, LATCH_PRESSURE_V, LATCH_STILL

MOST_LINES = 1000000
MOST_MOVES = 1000000000
MOST_STILL = 1000000


def lay(machine, arguments):
    if machine.joined():
        return [-3]
    if machine.totals.lines >= MOST_LINES:
        return [-4]
    clear_old_line(machine)
    forget_old_line(machine)
    put_new_line(machine, Settings(arguments))
    return [0]


def clear_old_line(machine):
    totals = machine.totals
    for cell in machine.cells:
        totals.thrown_away.take_in(cell)
    machine.vent_trap()


def forget_old_line(machine):
    machine.readings = []
    machine.clean = 0
    machine.unlike = 0
    machine.streak = 0
    machine.still = 0
    machine.forget_centring()
    machine.latches = [False] * 8


def put_new_line(machine, settings):
    machine.settings = settings
    machine.cells = [Amounts(0, 0, FULL_CELL) for place in range(settings.n)]
    machine.sink = SINK_DRAIN
    totals = machine.totals
    totals.air_in += FULL_CELL * settings.n
    totals.lines += 1


def source(machine, arguments):
    machine.source = arguments[0]
    machine.h = arguments[1]
    return [0]


def bag(machine, arguments):
    machine.bag = arguments[0]
    return [0]


def sink(machine, arguments):
    wanted = arguments[0]
    if machine.sink == wanted:
        return [0]
    if wanted == SINK_PATIENT:
        if machine.latched():
            return [-3]
        if machine.clean < machine.settings.clean_needed():
            return [-4]
    machine.sink = wanted
    machine.forget_centring()
    return [0]


def ultra(machine, arguments):
    machine.u = arguments[0]
    return [0]


def move(machine, arguments):
    count = arguments[0]
    if machine.held():
        return [-3]
    if machine.totals.moves + count > MOST_MOVES:
        return [-4]
    airs = []
    while len(airs) < count and not machine.held():
        airs.append(one_move(machine))
    answer = [len(airs), machine.latches_number()]
    if machine.joined():
        answer.extend(airs)
    return answer


def wait(machine, arguments):
    if any([cell.red > 0 for cell in machine.cells]):
        machine.still = min(machine.still + arguments[0], MOST_STILL)
    else:
        machine.still = 0
    if machine.still > machine.settings.z:
        machine.raise_latch(LATCH_STILL)
    return [machine.latches_number()]


def press(machine, arguments):
    pressures = (arguments[0], arguments[1])
    if machine.joined():
        if is_bad(machine, pressures, A):
            machine.raise_latch(LATCH_PRESSURE_A)
        if is_bad(machine, pressures, V):
            machine.raise_latch(LATCH_PRESSURE_V)
    machine.pressures = pressures
    return [machine.latches_number()]


def centre(machine):
    last = machine.pressures
    if last is None:
        return [-3]
    if not is_usual(last, A) or not is_usual(last, V):
        return [-4]
    machine.centre = last
    machine.uncentred = 0
    return [0]
