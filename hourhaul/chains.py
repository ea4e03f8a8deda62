"""Chains that are shortest by an hour, and their plan [8.1], [8.2]."""

from hourhaul.closed import bends_by
from hourhaul.gone import gone_plan
from hourhaul.left import chains_to_end, step_places, steps_hours, stream_with
from hourhaul.streams import within_rooms


def chain_length(net, chain):
    return steps_hours(net, chain[0])


def shortest_chains(net, last):
    return [chain for chain in chains_to_end(net) if chain_length(net, chain) <= last]


# The numbers of all ways are asked first: Python would take one below 0 for one from the end.
def is_chain(net, steps, loads):
    if loads < 1 or not all([0 <= number < len(net[1]) for number, forth in steps]):
        return False
    places = [0]
    for step in steps:
        ends = step_places(net, step)
        if ends[0] != places[-1] or ends[1] in places:
            return False
        places.append(ends[1])
    return places[-1] == net[0] - 1


def always_within_rooms(net, chains):
    stream = [0] * len(net[1])
    for steps, loads in chains:
        stream = stream_with(stream, steps, loads)
        if not within_rooms(net, stream):
            return False
    return True


def loads_of_length(net, chains, length):
    return sum([chain[1] for chain in chains if chain_length(net, chain) == length])


def put_together(net, chains):
    lengths = [chain_length(net, chain) for chain in chains]
    return [(length, loads_of_length(net, chains, length)) for length in sorted(set(lengths))]


# No bend is longer than the hour here, so no chain that is put together with others to one is either.
def chains_right(net, last, chains):
    if not all([is_chain(net, steps, loads) for steps, loads in chains]) or not always_within_rooms(net, chains):
        return False
    lengths = [chain_length(net, chain) for chain in chains]
    return lengths == sorted(lengths) and put_together(net, chains) == bends_by(net, last)


def chains_plan(net, last, chains):
    return gone_plan(net, last, chains)
