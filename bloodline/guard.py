"""The way in: a flat list of calls on one new object, and the flat list of its answers."""

from bloodline.calls import bag, centre, lay, move, press, sink, source, ultra, wait
from bloodline.ranges import all_in_range, how_many_arguments
from bloodline.state import Machine
from bloodline.telling import cell, look, totals
from bloodline.tending import check, fault, leak, reset, slip, vent


def answers(calls):
    machine = Machine()
    given = []
    at = 0
    while at < len(calls):
        place = calls[at]
        end = at + 1 + how_many_arguments(place)
        answer = answer_call(machine, place, calls[at + 1:end])
        given.append(len(answer))
        given.extend(answer)
        at = end
    return given


def answer_call(machine, place, arguments):
    if not all_in_range(place, arguments):
        return [-1]
    if place == 0:
        return lay(machine, arguments)
    if machine.settings is None:
        return [-2]
    if place <= 8:
        return answer_running(machine, place, arguments)
    return answer_tending(machine, place, arguments)


def answer_running(machine, place, arguments):
    if place == 1:
        return source(machine, arguments)
    if place == 2:
        return bag(machine, arguments)
    if place == 3:
        return sink(machine, arguments)
    if place == 4:
        return ultra(machine, arguments)
    if place == 5:
        return move(machine, arguments)
    if place == 6:
        return wait(machine, arguments)
    if place == 7:
        return press(machine, arguments)
    return centre(machine)


def answer_tending(machine, place, arguments):
    if place == 9:
        return leak(machine, arguments)
    if place == 10:
        return fault(machine, arguments)
    if place == 11:
        return slip(machine, arguments)
    if place == 12:
        return vent(machine)
    if place == 13:
        return check(machine)
    if place == 14:
        return reset(machine, arguments)
    if place == 15:
        return look(machine)
    if place == 16:
        return cell(machine, arguments)
    return totals(machine)
