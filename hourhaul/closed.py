"""The most by an hour, and closed hours that show that no plan brings more [6.1], [6.2]."""

from hourhaul.bends import bends_of
from hourhaul.left import shortest_come
from hourhaul.light import light_stream


def bends_by(net, last):
    return [bend for bend in bends_of(net) if bend[0] <= last]


def most_of(bends, last):
    return sum([loads * (last - length + 1) for length, loads in bends if length <= last])


def most_by(net, last):
    return most_of(bends_of(net), last)


# Longer bends bring nothing by the hour, so what goes best till then is a light stream of the others.
def rate_by(net, last):
    return sum([loads for length, loads in bends_by(net, last)])


def stream_by(net, last):
    return light_stream(net, rate_by(net, last))[0]


# Full ways hide places that the stream passes from the begin; so they are told back from the end as well,
# whose own closed hour is the one after the last. What neither of them leads to, the stream doesn't pass.
def closed_hours(net, last):
    after = last + 1
    come = shortest_come(net, stream_by(net, last), {0: 0, net[0] - 1: after})
    return [min(come[place][0], after) if place in come else after for place in range(net[0])]


def closed_right(net, last, closed):
    if len(closed) != net[0] or closed[0] != 0 or closed[-1] != last + 1:
        return False
    return all([0 <= hour <= last + 1 for hour in closed])


def closed_gap(way, closed):
    return max(0, closed[way[1]] - closed[way[0]] - way[3])


def closed_sum(net, last, closed):
    if not closed_right(net, last, closed):
        return None
    return sum([way[2] * closed_gap(way, closed) for way in net[1]])
