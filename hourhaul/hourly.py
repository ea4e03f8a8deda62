"""The net of a calendar's hours, with a place for each pair of place and hour: its streams are plans, its sides
lit pairs [10.1], [10.2]."""


def pair_number(calendar, place, hour):
    return place * (calendar[1] + 1) + hour


# A clean plan goes no way to the begin and none from the end; lit pairs count neither.
def ways_gone(calendar):
    gone = []
    for number, way in enumerate(calendar[2]):
        if way[1] != 0 and way[0] != calendar[0] - 1:
            gone.extend([(number, hour) for hour in range(calendar[1] - way[2] + 1)])
    return gone


def way_step(calendar, number, hour):
    way = calendar[2][number]
    here = pair_number(calendar, way[0], hour)
    there = pair_number(calendar, way[1], hour + way[2])
    return (here, there, calendar[3][number][hour], way[2])


# Where any may wait there is always room left: more than all rooms together let by.
def rooms_to_wait(calendar, place):
    if calendar[4][place] is not None:
        return calendar[4][place]
    return (sum([sum(row) for row in calendar[3]]) + 1,) * calendar[1]


# Waiting at the end takes no hours here: so a load's hours from the first pair to the last one
# are the hour in which it comes to the end.
def wait_steps(calendar, place):
    hours = 0 if place == calendar[0] - 1 else 1
    steps = []
    for hour, room in enumerate(rooms_to_wait(calendar, place)):
        here = pair_number(calendar, place, hour)
        steps.append((here, here + 1, room, hours))
    return steps


def hour_net(calendar):
    steps = [way_step(calendar, number, hour) for number, hour in ways_gone(calendar)]
    for place in range(calendar[0]):
        steps.extend(wait_steps(calendar, place))
    return (pair_number(calendar, calendar[0], 0), tuple(steps))


# The ways' steps stand ahead of the waits, in the order of the pairs.
def hours_plan(calendar, stream):
    pairs = ways_gone(calendar)
    return sorted([(pair[1], pair[0], loads) for pair, loads in zip(pairs, stream) if loads > 0])


def side_pairs(calendar, side):
    return [divmod(number, calendar[1] + 1) for number in side]
