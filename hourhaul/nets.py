"""Nets: how many places there are, and the ways between them [1.1] to [1.3]."""

from hourhaul.errors import BadHour, BadNet, NoWay, TooMany
from hourhaul.kinds import is_row, whole_within

LEAST_PLACES = 2
MOST_PLACES = 6
MOST_WAYS = 12
MOST_ROOM = 1_000_000_000
MOST_HOURS = 1_000_000


def is_way(many, thing):
    return (
        is_row(thing)
        and len(thing) == 4
        and whole_within(thing[0], 0, many - 1)
        and whole_within(thing[1], 0, many - 1)
        and thing[0] != thing[1]
        and whole_within(thing[2], 0, MOST_ROOM)
        and whole_within(thing[3], 1, MOST_HOURS)
    )


# Too many ways are refused last: a thing that is no way goes ahead of it,
# however far behind the twelfth it stands.
def made_net(many, ways):
    if not whole_within(many, LEAST_PLACES, MOST_PLACES) or not is_row(ways):
        raise BadNet(-1)
    for at, thing in enumerate(ways):
        if not is_way(many, thing):
            raise BadNet(at)
    if len(ways) > MOST_WAYS:
        raise TooMany("a net has at most twelve ways")
    return (many, tuple([tuple(way) for way in ways]))


def ways_out(net, place):
    return [number for number, way in enumerate(net[1]) if way[0] == place]


def ways_in(net, place):
    return [number for number, way in enumerate(net[1]) if way[1] == place]


# Asked ahead of each index: Python would take a number below 0 for one from the end.
def known_way(net, number):
    if not 0 <= number < len(net[1]):
        raise NoWay("no way has this number")
    return net[1][number]


def put_way(net, way):
    if len(net[1]) >= MOST_WAYS:
        raise TooMany("a net has at most twelve ways")
    return (net[0], net[1] + (tuple(way),))


def less_way(net, number):
    known_way(net, number)
    return (net[0], net[1][:number] + net[1][number + 1:])


def with_room(net, number, room):
    way = known_way(net, number)
    changed = (way[0], way[1], room, way[3])
    return (net[0], net[1][:number] + (changed,) + net[1][number + 1:])


def turned_net(net):
    end = net[0] - 1
    ways = [(end - way[1], end - way[0], way[2], way[3]) for way in net[1]]
    return (net[0], tuple(ways))


# The end is the last place of every net, so the old one makes room for the new place.
def end_moved(end, place):
    return end + 1 if place == end else place


def parted_net(net, number, hours):
    way_hours = known_way(net, number)[3]
    if not 1 <= hours < way_hours:
        raise BadHour("a way is parted at an hour within it")
    new = net[0] - 1
    ways = [(end_moved(new, way[0]), end_moved(new, way[1]), way[2], way[3]) for way in net[1]]
    whole = ways[number]
    ways[number] = (whole[0], new, whole[2], hours)
    ways.append((new, whole[1], whole[2], whole[3] - hours))
    return (net[0] + 1, tuple(ways))
