"""Streams and their rates, sides and their rooms, rounds [4.1], [4.3]."""

from hourhaul.errors import NoWalk
from hourhaul.kinds import is_rising
from hourhaul.nets import ways_in, ways_out
from hourhaul.walks import soonest_walk, walk_places


def stays_at(net, stream, place):
    come = sum([stream[number] for number in ways_in(net, place)])
    return come - sum([stream[number] for number in ways_out(net, place)])


def stream_rate(net, stream):
    return -stays_at(net, stream, 0)


def within_rooms(net, stream):
    return all([0 <= loads <= way[2] for loads, way in zip(stream, net[1])])


# The length is asked first: the rest takes a number for each way.
def stream_right(net, stream):
    if len(stream) != len(net[1]) or not within_rooms(net, stream):
        return False
    if stream_rate(net, stream) < 0:
        return False
    return all([stays_at(net, stream, place) == 0 for place in range(1, net[0] - 1)])


def side_right(net, side):
    return is_rising(side) and side[:1] == (0,) and side[-1] < net[0] - 1


def side_room(net, side):
    return sum([way[2] for way in net[1] if way[0] in side and way[1] not in side])


def is_round(net, walk, loads):
    try:
        places = walk_places(net, walk)
    except NoWalk:
        return False
    return loads >= 1 and places[:1] == (0,) and places[-1:] == (net[0] - 1,)


# A walk comes to no place twice, so it goes no way twice.
def rounds_stream(net, rounds):
    return [sum([loads for walk, loads in rounds if number in walk]) for number in range(len(net[1]))]


def rounds_fit(net, rounds):
    if not all([is_round(net, walk, loads) for walk, loads in rounds]):
        return False
    return within_rooms(net, rounds_stream(net, rounds))


def with_rooms(net, rooms):
    ways = [(way[0], way[1], room, way[3]) for way, room in zip(net[1], rooms)]
    return (net[0], tuple(ways))


# Each round but the last takes all that is left on some way, so there are at most as many as ways.
# A ring from the end back to the begin lets walks have more loads than the rate: hence the least of both.
def stream_rounds(net, stream):
    left = list(stream)
    rate = stream_rate(net, stream)
    rounds = []
    while rate > 0:
        walk = soonest_walk(with_rooms(net, left), net[0] - 1)
        loads = min([rate] + [left[number] for number in walk])
        for number in walk:
            left[number] -= loads
        rate -= loads
        rounds.append((walk, loads))
    return rounds
