"""Nets and slow, plain answers that several tests hold the program against."""

import math
import random
from collections import deque
from functools import lru_cache
from itertools import permutations, product

G = 10 ** 9
FAR = 2 * 10 ** 18
HUGE = 10 ** 29
PLAIN = (3, ((0, 1, 5, 2), (1, 2, 4, 1), (0, 2, 3, 7)))
# Bends (3, 2), (8, 2): the walk across is 3 long; all that comes beyond it goes back over way 1.
BACK = (4, ((0, 1, 2, 1), (1, 2, 2, 1), (2, 3, 2, 1), (0, 2, 2, 4), (1, 3, 2, 5)))
# Bends (3, 1), (5, G - 1), (6, G - 1), (8, 1).
GREAT = (4, ((0, 1, G, 1), (1, 2, 1, 1), (2, 3, G, 1), (0, 2, G, 4), (1, 3, G, 5)))
# A way into the begin, one out of the end, one without room; place 3 is come to by none that has room.
ODD = (5, (
    (0, 1, 3, 1), (1, 4, 2, 2), (1, 0, 9, 1), (4, 2, 9, 1), (0, 4, 0, 1), (0, 3, 0, 1), (3, 4, 7, 1), (2, 1, 5, 1),
))
# The end is never come to: no ways, none with room, none that joins.
NEVER = (
    (2, ()), (6, ()), (2, ((0, 1, 0, 1),)), (2, ((1, 0, 5, 1),)), (3, ((0, 1, 5, 2), (1, 2, 0, 1))),
    (3, ((0, 1, 5, 2), (2, 1, 5, 1), (1, 0, 5, 1))), (4, ((0, 1, 5, 1), (2, 3, 5, 1), (0, 2, 0, 1))),
)


def some_nets(count):
    chance = random.Random(20)
    for _ in range(count):
        many = chance.randint(2, 6)
        ways = []
        for _ in range(chance.randint(0, 12)):
            start, to = chance.sample(range(many), 2)
            ways.append((start, to, chance.choice((0, 1, 1, 5)), chance.randint(1, 4)))
        yield (many, tuple(ways))


def grown_net(net, times):
    """One of some_nets with rooms up to the bound, and so many times as long ways."""
    return (net[0], tuple((start, to, room * G // 5, hours * times) for start, to, room, hours in net[1]))


def hours_about(lengths):
    """Hours 0 and 1, those about some lengths, and far ones."""
    hours = {0, 1, 12, 10 ** 6, FAR - 1, FAR}
    for length in lengths:
        hours.update((length - 1, length, length + 1))
    return sorted(hours)


def walks_between(net, start, goal):
    """All walks, by trying every row of unlike places and every way between neighbours."""
    many, ways = net
    if start == goal:
        return [()]
    between = [place for place in range(many) if place not in (start, goal)]
    walks = []
    for length in range(len(between) + 1):
        for middle in permutations(between, length):
            rows = [()]
            row = (start,) + middle + (goal,)
            for here, there in zip(row, row[1:]):
                fitting = [n for n, way in enumerate(ways) if way[:2] == (here, there) and way[2] > 0]
                rows = [old + (n,) for old in rows for n in fitting]
            walks.extend(rows)
    return sorted(walks)


def hours_of(net, walk):
    return sum(net[1][number][3] for number in walk)


# (many, pairs of places, hours): what goes across, the shortest, stands in the way of two others
# and has to be gone back over where all is to be brought.
ACROSS = (
    (4, ((0, 1), (1, 2), (2, 3), (0, 2), (1, 3)), (1, 1, 1, 4, 5)),
    (6, ((0, 1), (1, 2), (2, 5), (0, 3), (3, 2), (1, 4), (4, 5)), (1, 1, 2, 1, 3, 3, 2)),
)


def small_nets(count):
    """Nets with so little room that all streams can be tried; in two thirds a walk leads across others."""
    chance = random.Random(41)
    while count > 0:
        ways = []
        many = chance.randint(2, 6)
        if count % 3:
            many, pairs, hours = ACROSS[count % 3 - 1]
            ways = [pair + (chance.choice((1, 1, 1, 2)), long) for pair, long in zip(pairs, hours)]
        for _ in range(chance.randint(0, 9 - len(ways))):
            ways.append((*chance.sample(range(many), 2), chance.choice((0, 1, 1, 2, 2, 3)), chance.randint(1, 6)))
        chance.shuffle(ways)
        if math.prod(way[2] + 1 for way in ways) <= 1500:
            count -= 1
            yield (many, tuple(ways))


def stays_of(net, stream):
    """For each place what comes to it in a stream, less what leaves it."""
    stays = [0] * net[0]
    for (start, to, _, _), loads in zip(net[1], stream):
        stays[start] -= loads
        stays[to] += loads
    return stays


def streams_of(net):
    """All streams with their rates, by trying every row of loads."""
    for loads in product(*(range(way[2] + 1) for way in net[1])):
        stays = stays_of(net, loads)
        if not any(stays[1:-1]) and stays[0] <= 0:
            yield list(loads), -stays[0]


def sides_of(net):
    """All sides, by taking or leaving each place amid."""
    for taken in product((False, True), repeat=net[0] - 2):
        yield (0,) + tuple(place for place, lies in enumerate(taken, 1) if lies)


def least_hours_of(net):
    """For each rate the fewest hours of all its streams."""
    least = {}
    for stream, rate in streams_of(net):
        hours = sum(loads * way[3] for loads, way in zip(stream, net[1]))
        least[rate] = min(hours, least.get(rate, hours))
    return least


def fits_by_words(net, last, plan):
    """What 3.1 asks of each triple and of their order."""
    for hour, way, loads in plan:
        if hour < 0 or loads < 1 or way not in range(len(net[1])):
            return False
        if loads > net[1][way][2] or hour + net[1][way][3] > last:
            return False
    return plan == sorted(plan) and len({triple[:2] for triple in plan}) == len(plan)


def stood(net, plan, place, hour):
    """What has come to a place by an hour, less what has left it."""
    come = sum(loads for at, way, loads in plan if net[1][way][1] == place and at + net[1][way][3] <= hour)
    return come - sum(loads for at, way, loads in plan if net[1][way][0] == place and at <= hour)


def sent(net, plan, hour):
    """What leaves the begin in an hour or later, less what comes to it."""
    left = sum(loads for at, way, loads in plan if net[1][way][0] == 0 and at >= hour)
    return left - sum(loads for at, way, loads in plan if net[1][way][1] == 0 and at + net[1][way][3] >= hour)


def only_whole(thing):
    """Whether all numbers in a told thing are whole ones, True and False being none."""
    if isinstance(thing, (list, tuple)):
        return all(only_whole(part) for part in thing)
    return type(thing) is int


def tiny_nets(count):
    """Nets so small that all plans of a few hours can be tried."""
    chance = random.Random(62)
    for _ in range(count):
        many = chance.randint(2, 4)
        ways = []
        for _ in range(chance.randint(1, 5)):
            ways.append((*chance.sample(range(many), 2), chance.choice((0, 1, 1, 2)), chance.choice((1, 1, 2, 3))))
        yield (many, tuple(ways))


def most_tried(calendar, stores):
    """The most of some stores that any right plan brings, by trying all that may go in, hour by hour."""
    many, last, ways, rooms, waits = calendar

    @lru_cache(maxsize=None)
    def best(hour, stands, under):
        stands = list(stands)
        for out, place, loads in under:
            stands[place] += loads if out == hour else 0
        if hour == last:
            return stands[-1]
        tops = [0 if hour + way[2] > last else min(row[hour], stands[way[0]]) for way, row in zip(ways, rooms)]
        found = -1
        for loads in product(*(range(top + 1) for top in tops)):
            left = list(stands)
            for way, taken in zip(ways, loads):
                left[way[0]] -= taken
            if all(there >= 0 and (row is None or there <= row[hour]) for there, row in zip(left, waits)):
                gone = [(hour + way[2], way[1], taken) for way, taken in zip(ways, loads) if taken]
                rest = [triple for triple in under if triple[0] > hour]
                found = max(found, best(hour + 1, tuple(left), tuple(sorted(rest + gone))))
        return found

    return best(0, stores, ())


def stores_by_trying(net, stores, last):
    """The most of some stores that any plan right with them brings."""
    many, ways = net
    bare = tuple((start, to, hours) for start, to, room, hours in ways)
    rooms = tuple((way[2],) * (last + 1) for way in ways)
    return most_tried((many, last, bare, rooms, (None,) * many), stores)


def most_by_trying(net, last):
    """The most that any right plan has brought by an hour."""
    return stores_by_trying(net, (math.inf,) + (0,) * (net[0] - 1), last)


def most_by_hours(net, last):
    """The most by an hour: place by place and hour by hour, as much as ever fits from the begin to the end."""
    many, ways = net
    room = {}
    for start, to, loads, long in ways:
        for hour in range(last - long + 1):
            step = ((start, hour), (to, hour + long))
            room[step] = room.get(step, 0) + loads
    for place in range(many):
        for hour in range(last):
            room[((place, hour), (place, hour + 1))] = math.inf
    joined = {}
    for one, other in list(room):
        joined.setdefault(one, set()).add(other)
        joined.setdefault(other, set()).add(one)
        room.setdefault((other, one), 0)
    most = 0
    while True:
        come = {(0, 0): None}
        row = deque(come)
        while row and (many - 1, last) not in come:
            here = row.popleft()
            for there in sorted(joined.get(here, ())):
                if there not in come and room[(here, there)] > 0:
                    come[there] = here
                    row.append(there)
        if (many - 1, last) not in come:
            return most
        steps = []
        there = (many - 1, last)
        while come[there] is not None:
            steps.append((come[there], there))
            there = come[there]
        loads = min(room[step] for step in steps)
        for one, other in steps:
            room[(one, other)] -= loads
            room[(other, one)] += loads
        most += loads


def some_plan(chance, net, last):
    """A right plan, made hour by hour of what stands."""
    plan = []
    for hour in range(last):
        for number, (start, to, room, hours) in enumerate(net[1]):
            there = room if start == 0 else min(room, stood(net, plan, start, hour))
            if there > 0 and hour + hours <= last and chance.random() < 0.6:
                plan.append((hour, number, chance.choice((1, there, there))))
    return plan


def spoilt_plan(chance, plan):
    """A list of triples with one thing otherwise than in a plan."""
    number = chance.randrange(len(plan))
    hour, way, loads = plan[number]
    other = list(plan)
    other[number] = chance.choice((
        (hour, way, loads + 1), (hour, way, 0), (hour - 1, way, loads), (hour + 1, way, loads), (hour, way + 1, loads),
        (hour, -1, loads), (hour, way, -loads), (-1, way, loads), (hour, HUGE, loads), (HUGE, way, loads),
    ))
    return chance.choice((other, sorted(other), plan + [plan[number]], sorted(plan + [plan[number]]), plan[1:]))
