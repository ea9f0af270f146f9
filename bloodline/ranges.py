"""How many arguments each call has, and from where to where each of them may go."""

# By the call's place, a pair (lowest, highest) for each argument, in their order.
RANGES = {
    0: (
        (8, 64), (1, 63), (1, 63), (1, 63), (1, 32), (1, 1000), (1, 32000), (0, 1000),
        (0, 1000000), (1, 1000), (1, 1000000), (1, 1000), (1, 3600),
    ),
    1: ((0, 2), (0, 1000)),
    2: ((0, 5000000),),
    3: ((0, 2),),
    4: ((0, 500),),
    5: ((1, 100),),
    6: ((1, 3600),),
    7: ((-1000, 1000), (-1000, 1000)),
    8: (),
    9: ((0, 1000000),),
    10: ((0, 1), (0, 1), (0, 1000)),
    11: ((0, 1), (0, 1)),
    12: (),
    13: (),
    14: ((0, 7),),
    15: (),
    16: ((0, 63),),
    17: (),
}


def how_many_arguments(place):
    return len(RANGES[place])


def all_in_range(place, arguments):
    for argument, limits in zip(arguments, RANGES[place]):
        if argument < limits[0] or argument > limits[1]:
            return False
    return place != 0 or places_in_order(arguments)


def places_in_order(arguments):
    # The three places bound one another, so fixed limits can't tell their ranges.
    n = arguments[0]
    dz = arguments[1]
    ch = arguments[2]
    dt = arguments[3]
    return dz < ch and ch < dt and dt < n
