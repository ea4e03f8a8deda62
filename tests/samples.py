"""Nets and slow, plain answers that several tests hold the program against."""

import math
import random
from itertools import permutations, product

PLAIN = (3, ((0, 1, 5, 2), (1, 2, 4, 1), (0, 2, 3, 7)))


def some_nets(count):
    chance = random.Random(20)
    for _ in range(count):
        many = chance.randint(2, 6)
        ways = []
        for _ in range(chance.randint(0, 12)):
            start, to = chance.sample(range(many), 2)
            ways.append((start, to, chance.choice((0, 1, 1, 5)), chance.randint(1, 4)))
        yield (many, tuple(ways))


def walks_between(net, start, goal):
    """All walks, by trying every row of unlike places and every way between neighbours."""
    many, ways = net
    if start == goal:
        return [()]
    between = [place for place in range(many) if place not in (start, goal)]
    walks = []
    for length in range(len(between) + 1):
        for middle in permutations(between, length):
            rows = [()]
            row = (start,) + middle + (goal,)
            for here, there in zip(row, row[1:]):
                fitting = [n for n, way in enumerate(ways) if way[:2] == (here, there) and way[2] > 0]
                rows = [old + (n,) for old in rows for n in fitting]
            walks.extend(rows)
    return sorted(walks)


def hours_of(net, walk):
    return sum(net[1][number][3] for number in walk)


# (many, pairs of places, hours): what goes across, the shortest, stands in the way of two others
# and has to be gone back over where all is to be brought.
ACROSS = (
    (4, ((0, 1), (1, 2), (2, 3), (0, 2), (1, 3)), (1, 1, 1, 4, 5)),
    (6, ((0, 1), (1, 2), (2, 5), (0, 3), (3, 2), (1, 4), (4, 5)), (1, 1, 2, 1, 3, 3, 2)),
)


def small_nets(count):
    """Nets with so little room that all streams can be tried; in two thirds a walk leads across others."""
    chance = random.Random(41)
    while count > 0:
        ways = []
        many = chance.randint(2, 6)
        if count % 3:
            many, pairs, hours = ACROSS[count % 3 - 1]
            ways = [pair + (chance.choice((1, 1, 1, 2)), long) for pair, long in zip(pairs, hours)]
        for _ in range(chance.randint(0, 9 - len(ways))):
            ways.append((*chance.sample(range(many), 2), chance.choice((0, 1, 1, 2, 2, 3)), chance.randint(1, 6)))
        chance.shuffle(ways)
        if math.prod(way[2] + 1 for way in ways) <= 1500:
            count -= 1
            yield (many, tuple(ways))


def stays_of(net, stream):
    """For each place what comes to it in a stream, less what leaves it."""
    stays = [0] * net[0]
    for (start, to, _, _), loads in zip(net[1], stream):
        stays[start] -= loads
        stays[to] += loads
    return stays


def streams_of(net):
    """All streams with their rates, by trying every row of loads."""
    for loads in product(*(range(way[2] + 1) for way in net[1])):
        stays = stays_of(net, loads)
        if not any(stays[1:-1]) and stays[0] <= 0:
            yield list(loads), -stays[0]


def sides_of(net):
    """All sides, by taking or leaving each place amid."""
    for taken in product((False, True), repeat=net[0] - 2):
        yield (0,) + tuple(place for place, lies in enumerate(taken, 1) if lies)


def least_hours_of(net):
    """For each rate the fewest hours of all its streams."""
    least = {}
    for stream, rate in streams_of(net):
        hours = sum(loads * way[3] for loads, way in zip(stream, net[1]))
        least[rate] = min(hours, least.get(rate, hours))
    return least


def stood(net, plan, place, hour):
    """What has come to a place by an hour, less what has left it."""
    come = sum(loads for at, way, loads in plan if net[1][way][1] == place and at + net[1][way][3] <= hour)
    return come - sum(loads for at, way, loads in plan if net[1][way][0] == place and at <= hour)


def sent(net, plan, hour):
    """What leaves the begin in an hour or later, less what comes to it."""
    left = sum(loads for at, way, loads in plan if net[1][way][0] == 0 and at >= hour)
    return left - sum(loads for at, way, loads in plan if net[1][way][1] == 0 and at + net[1][way][3] >= hour)


def only_whole(thing):
    """Whether all numbers in a told thing are whole ones, True and False being none."""
    if isinstance(thing, (list, tuple)):
        return all(only_whole(part) for part in thing)
    return type(thing) is int
