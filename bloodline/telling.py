"""The calls 15 to 17, which tell what an object holds and change nothing."""


def look(machine):
    return [
        machine.latches_number(),
        machine.clean,
        len(machine.readings),
        sum(machine.readings),
        machine.source,
        machine.h,
        machine.bag,
        machine.sink,
        machine.u,
        machine.caught,
        machine.unlike,
        machine.streak,
        machine.uncentred,
        machine.still,
    ]


def cell(machine, arguments):
    i = arguments[0]
    if i >= machine.settings.n:
        return [-3]
    return [0] + three_of(machine.cells[i])


def totals(machine):
    counted = machine.totals
    came_in = three_of(counted.from_patient) + [counted.bag_water, counted.air_in]
    given_away = three_of(counted.given_back) + three_of(counted.spilt)
    got_rid_of = three_of(counted.drained) + three_of(counted.thrown_away)
    taken_out = [counted.dialysed, counted.vented]
    return [0] + came_in + given_away + got_rid_of + taken_out + [counted.moves, counted.lines]


def three_of(amounts):
    return [amounts.red, amounts.water, amounts.air]
