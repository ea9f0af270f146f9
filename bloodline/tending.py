"""The calls 9 to 14: what befalls the line and its parts, and what brings the guard's latches down again."""

from bloodline.pressures import A, V, last_is_bad
from bloodline.state import LATCH_AIR, LATCH_LEAK, LATCH_PRESSURE_A, LATCH_PRESSURE_V
from bloodline.state import LATCH_THICK, LATCH_UNCENTRED, LATCH_UNLIKE

MOST_STREAK = 3

ARTERY = 0


def leak(machine, arguments):
    if arguments[0] >= machine.settings.leak:
        machine.streak = min(machine.streak + 1, MOST_STREAK)
    else:
        machine.streak = 0
    if machine.streak == MOST_STREAK:
        machine.raise_latch(LATCH_LEAK)
    return [machine.latches_number()]


def fault(machine, arguments):
    channel = arguments[0]
    is_stuck = arguments[1] == 1
    machine.stuck[channel] = arguments[2] if is_stuck else None
    return [0]


def slip(machine, arguments):
    is_slipped = arguments[1] == 1
    if arguments[0] == ARTERY:
        machine.artery_slipped = is_slipped
    else:
        machine.vein_slipped = is_slipped
    return [0]


def vent(machine):
    return [0, machine.vent_trap()]


def check(machine):
    found = 0
    if machine.stuck[0] is not None:
        found += 1
    if machine.stuck[1] is not None:
        found += 2
    if found == 0:
        machine.lower_latch(LATCH_UNLIKE)
        machine.unlike = 0
    return [found]


def reset(machine, arguments):
    latch = arguments[0]
    if not machine.latches[latch]:
        return [-3]
    if must_stay_up(machine, latch):
        return [-4]
    machine.lower_latch(latch)
    if latch == LATCH_UNCENTRED:
        machine.uncentred = 0
    return [machine.latches_number()]


def must_stay_up(machine, latch):
    if latch == LATCH_AIR:
        return machine.clean < machine.settings.clean_needed()
    if latch == LATCH_LEAK:
        return machine.streak > 0
    if latch == LATCH_PRESSURE_A:
        return last_is_bad(machine, A)
    if latch == LATCH_PRESSURE_V:
        return last_is_bad(machine, V)
    if latch == LATCH_THICK:
        return machine.u > 0
    if latch == LATCH_UNCENTRED:
        return machine.joined() and machine.centre is None
    # Latches 1 and 7 are none of reset's: check lowers the one, only a new line the other.
    return True
