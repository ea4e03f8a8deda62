"""The bends of a net, and the least hours of a rate [5.1]."""

from hourhaul.left import chains_to_end, cut_to_rate, steps_hours


def bends_of(net):
    bends = {}
    for steps, loads in chains_to_end(net):
        length = steps_hours(net, steps)
        bends[length] = bends.get(length, 0) + loads
    return sorted(bends.items())


def least_hours(net, rate):
    return sum([length * loads for length, loads in cut_to_rate(bends_of(net), rate)])
