"""Light streams, and the clocks that show them to be light [5.1], [5.2]."""

from hourhaul.left import chains_to_end, cut_to_rate, shortest_come, stream_with
from hourhaul.streams import stream_right


def stream_hours(net, stream):
    return sum([loads * way[3] for loads, way in zip(stream, net[1])])


# Places that nothing more can come to need clocks too. They begin so late
# that no steps from them, all ways gone back, come to the begin ahead of 0.
def found_clocks(net, stream):
    late = sum([way[3] for way in net[1]])
    begun = {0: 0}
    for place in range(1, net[0]):
        begun[place] = late
    come = shortest_come(net, stream, begun)
    return [come[place][0] for place in range(net[0])]


def light_stream(net, rate):
    stream = [0] * len(net[1])
    for steps, loads in cut_to_rate(chains_to_end(net), rate):
        stream = stream_with(stream, steps, loads)
    return (stream, found_clocks(net, stream))


# Where a way has no room no stream goes it or leaves room in it, so nothing is asked of it.
def clock_holds(way, loads, clocks):
    come = clocks[way[0]] + way[3]
    return (loads >= way[2] or clocks[way[1]] <= come) and (loads <= 0 or clocks[way[1]] >= come)


def clocks_right(net, stream, clocks):
    if not stream_right(net, stream) or len(clocks) != net[0] or clocks[0] != 0:
        return False
    return all([clock_holds(way, loads, clocks) for way, loads in zip(net[1], stream)])
