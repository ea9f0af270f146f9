"""One move of the pump, step by step as the document numbers them."""

from bloodline.state import Amounts, FULL_CELL, SINK_DRAIN, SINK_LOOP, SOURCE_BAG, SOURCE_PATIENT
from bloodline.state import LATCH_AIR, LATCH_THICK, LATCH_UNCENTRED, LATCH_UNLIKE

MOST_UNLIKE = 2
MOST_UNCENTRED = 10


def one_move(machine):
    """Do the steps 1 to 11, and answer the air of the cell that left."""
    fresh = new_cell(machine)
    air_that_left = let_last_leave(machine)
    machine.cells = [fresh] + machine.cells[:-1]
    dialyse(machine)
    trap_air(machine)
    channels = read_channels(machine)
    remember_reading(machine, max(channels))
    judge_reading(machine)
    compare_channels(machine, channels)
    watch_thickness(machine)
    watch_centring(machine)
    machine.still = 0
    totals = machine.totals
    totals.moves += 1
    return air_that_left


def new_cell(machine):
    if machine.sink == SINK_LOOP:
        return machine.cells[-1]
    if machine.source == SOURCE_BAG:
        return cell_from_bag(machine)
    if machine.source == SOURCE_PATIENT and not machine.artery_slipped:
        return cell_from_patient(machine)
    return cell_of_air(machine)


def cell_from_bag(machine):
    water = min(FULL_CELL, machine.bag)
    air = FULL_CELL - water
    machine.bag -= water
    totals = machine.totals
    totals.bag_water += water
    totals.air_in += air
    return Amounts(0, water, air)


def cell_from_patient(machine):
    cell = Amounts(machine.h, FULL_CELL - machine.h, 0)
    totals = machine.totals
    totals.from_patient.take_in(cell)
    return cell


def cell_of_air(machine):
    totals = machine.totals
    totals.air_in += FULL_CELL
    return Amounts(0, 0, FULL_CELL)


def let_last_leave(machine):
    last = machine.cells[-1]
    totals = machine.totals
    if machine.sink == SINK_DRAIN:
        totals.drained.take_in(last)
    elif machine.joined() and machine.vein_slipped:
        totals.spilt.take_in(last)
    elif machine.joined():
        totals.given_back.take_in(last)
    return last.air


def dialyse(machine):
    cell = machine.cells[machine.settings.dz]
    taken = min(machine.u, cell.water)
    cell.water -= taken
    totals = machine.totals
    totals.dialysed += taken


def trap_air(machine):
    settings = machine.settings
    cell = machine.cells[settings.ch]
    taken = min(cell.air, settings.room - machine.caught)
    cell.air -= taken
    machine.caught += taken


def read_channels(machine):
    air = machine.cells[machine.settings.dt].air
    return [air if number is None else number for number in machine.stuck]


def remember_reading(machine, reading):
    readings = [reading] + machine.readings
    machine.readings = readings[:machine.settings.w]


def judge_reading(machine):
    settings = machine.settings
    if machine.readings[0] < settings.t and sum(machine.readings) < settings.s:
        machine.clean = min(machine.clean + 1, settings.clean_needed())
    else:
        machine.clean = 0
        machine.raise_latch(LATCH_AIR)


def compare_channels(machine, channels):
    if abs(channels[0] - channels[1]) > machine.settings.d:
        machine.unlike = min(machine.unlike + 1, MOST_UNLIKE)
    else:
        machine.unlike = 0
    if machine.unlike == MOST_UNLIKE:
        machine.raise_latch(LATCH_UNLIKE)


def watch_thickness(machine):
    settings = machine.settings
    cell = machine.cells[settings.dz]
    if 1000 * cell.red > settings.k * (cell.red + cell.water):
        machine.raise_latch(LATCH_THICK)


def watch_centring(machine):
    if machine.joined() and machine.centre is None:
        machine.uncentred = min(machine.uncentred + 1, MOST_UNCENTRED)
        if machine.uncentred == MOST_UNCENTRED:
            machine.raise_latch(LATCH_UNCENTRED)
