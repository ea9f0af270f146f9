"""The way in: a flat list of calls on one new object, and the flat list of its answers."""

from bloodline.calls import bag, centre, lay, move, press, sink, source, ultra, wait
from bloodline.ranges import all_in_range, how_many_arguments
from bloodline.state import Machine


def answers(calls):
    machine = Machine()
    given = []
    at = 0
    while at < len(calls):
        place = calls[at]
        end = at + 1 + how_many_arguments(place)
        answer = answer_call(machine, place, calls[at + 1:end])
        given.append(len(answer))
        given.extend(answer)
        at = end
    return given


def answer_call(machine, place, arguments):
    if not all_in_range(place, arguments):
        return [-1]
    if place == 0:
        return lay(machine, arguments)
    if machine.settings is None:
        return [-2]
    return answer_on_line(machine, place, arguments)


def answer_on_line(machine, place, arguments):
    if place == 1:
        return source(machine, arguments)
    if place == 2:
        return bag(machine, arguments)
    if place == 3:
        return sink(machine, arguments)
    if place == 4:
        return ultra(machine, arguments)
    if place == 5:
        return move(machine, arguments)
    if place == 6:
        return wait(machine, arguments)
    if place == 7:
        return press(machine, arguments)
    return centre(machine)
