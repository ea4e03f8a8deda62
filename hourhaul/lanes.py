"""Rooms parted ahead: so much of each way leads forth, the rest the other way about [13.1]."""

from hourhaul.closed import most_by, stream_by
from hourhaul.errors import TooMany, TooMuch
from hourhaul.streams import with_rooms, within_rooms

MOST_LANED = 6


# Each way is there twice in the new net, and twelve are the most.
def few_enough(net):
    if len(net[1]) > MOST_LANED:
        raise TooMany("a net of more than six ways isn't parted")


def lanes_net(net, forth, back):
    turned = [(way[1], way[0], room, way[3]) for way, room in zip(net[1], back)]
    return (net[0], with_rooms(net, forth)[1] + tuple(turned))


def open_net(net):
    few_enough(net)
    rooms = [way[2] for way in net[1]]
    return lanes_net(net, rooms, rooms)


def is_forth(net, forth):
    return len(forth) == len(net[1]) and within_rooms(net, forth)


def laned_net(net, forth):
    few_enough(net)
    if not is_forth(net, forth):
        raise TooMuch("each way leads forth with a number from 0 to its room")
    return lanes_net(net, forth, [way[2] - room for way, room in zip(net[1], forth)])


# No light stream goes a way both forth and back, as it would have fewer hours without: so what it goes back
# and what it goes forth have room beside each other.
def best_forth(net, last):
    back = stream_by(open_net(net), last)[len(net[1]):]
    return tuple([way[2] - loads for way, loads in zip(net[1], back)])


def forth_right(net, last, forth):
    most = most_by(open_net(net), last)
    return is_forth(net, forth) and most_by(laned_net(net, forth), last) == most
