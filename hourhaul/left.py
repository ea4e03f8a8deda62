"""What a stream leaves of a net: steps over ways, forth and back, by which more can go, and chains of them.

A step is a pair (way, forth); back it takes loads off the way again, and their hours with them.
"""

from hourhaul.errors import TooMuch


def step_places(net, step):
    way = net[1][step[0]]
    return (way[0], way[1]) if step[1] else (way[1], way[0])


def step_hours(net, step):
    hours = net[1][step[0]][3]
    return hours if step[1] else -hours


def step_room(net, stream, step):
    loads = stream[step[0]]
    return net[1][step[0]][2] - loads if step[1] else loads


def steps_hours(net, steps):
    return sum([step_hours(net, step) for step in steps])


def open_steps(net, stream):
    steps = [[] for place in range(net[0])]
    for number in range(len(net[1])):
        for step in ((number, True), (number, False)):
            if step_room(net, stream, step) > 0:
                steps[step_places(net, step)[0]].append(step)
    return steps


# Tells (hours, how many steps, last step) of each place that can be come to; begun tells the hours to begin with.
# Of the shortest it takes one of the fewest steps: so the turns are few, whatever the rooms,
# and nothing is ever walked round in a ring whose hours come to nought.
def shortest_come(net, stream, begun):
    steps = open_steps(net, stream)
    come = {}
    for place in begun:
        come[place] = (begun[place], 0, None)
    row = list(begun)
    while len(row) > 0:
        changed = {}
        for place in row:
            for step in steps[place]:
                to = step_places(net, step)[1]
                found = (come[place][0] + step_hours(net, step), come[place][1] + 1)
                if to not in come or found < come[to][:2]:
                    come[to] = found + (step,)
                    changed[to] = True
        row = list(changed)
    return come


def steps_to(net, come, place):
    steps = []
    here = place
    while come[here][2] is not None:
        step = come[here][2]
        steps.append(step)
        here = step_places(net, step)[0]
    return tuple(reversed(steps))


def stream_with(stream, steps, loads):
    changed = list(stream)
    for number, forth in steps:
        changed[number] += loads if forth else -loads
    return changed


# Each chain goes over what those ahead of it have left, so their lengths never fall.
def chains_to_end(net):
    end = net[0] - 1
    stream = [0] * len(net[1])
    chains = []
    come = shortest_come(net, stream, {0: 0})
    while end in come:
        steps = steps_to(net, come, end)
        loads = min([step_room(net, stream, step) for step in steps])
        chains.append((steps, loads))
        stream = stream_with(stream, steps, loads)
        come = shortest_come(net, stream, {0: 0})
    return chains


# Of chains, and of bends: the first so many of their loads.
def cut_to_rate(pairs, rate):
    cut = []
    left = rate
    for first, loads in pairs:
        taken = min(left, loads)
        cut.append((first, taken))
        left -= taken
    if left > 0:
        raise TooMuch("no stream has this rate")
    return cut
