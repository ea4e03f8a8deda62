"""Fullest streams, each with a side of just so much room [4.1], [4.2]."""

from hourhaul.left import chains_to_end, shortest_come, stream_with
from hourhaul.streams import side_right, side_room, stream_rate, stream_right


# Where hours don't count, chains of the fewest steps take the fewest turns.
def hourless_net(net):
    return (net[0], tuple([(way[0], way[1], way[2], 0) for way in net[1]]))


def fullest_stream(net):
    hourless = hourless_net(net)
    stream = [0] * len(net[1])
    for steps, loads in chains_to_end(hourless):
        stream = stream_with(stream, steps, loads)
    side = tuple(sorted(shortest_come(hourless, stream, {0: 0})))
    return (stream_rate(net, stream), stream, side)


# No rate is above a side's room, so a stream and a side of one number show each other to be the best.
def fullest_right(net, told):
    if not stream_right(net, told[1]) or not side_right(net, told[2]):
        return False
    return stream_rate(net, told[1]) == told[0] and side_room(net, told[2]) == told[0]
