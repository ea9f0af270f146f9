"""Which pressures the guard takes for bad."""

# A pair of pressures holds a before the pump first, then v behind the dialyser.
A = 0
V = 1
USUAL_PRESSURES = ((-300, 100), (10, 400))


def is_bad(machine, pressures, which):
    if not is_usual(pressures, which):
        return True
    return machine.centre is not None and abs(pressures[which] - machine.centre[which]) > machine.settings.p


def is_usual(pressures, which):
    limits = USUAL_PRESSURES[which]
    return pressures[which] >= limits[0] and pressures[which] <= limits[1]


def last_is_bad(machine, which):
    return machine.pressures is not None and is_bad(machine, machine.pressures, which)
