"""Nets and slow, plain answers that several tests hold the program against."""

import math
import random
from collections import deque
from functools import lru_cache
from itertools import permutations, product

G = 10 ** 9
FAR = 2 * 10 ** 18
HUGE = 10 ** 29
PLAIN = (3, ((0, 1, 5, 2), (1, 2, 4, 1), (0, 2, 3, 7)))
# Bends (3, 2), (8, 2): the walk across is 3 long; all that comes beyond it goes back over way 1.
BACK = (4, ((0, 1, 2, 1), (1, 2, 2, 1), (2, 3, 2, 1), (0, 2, 2, 4), (1, 3, 2, 5)))
# Bends (3, 1), (5, G - 1), (6, G - 1), (8, 1).
GREAT = (4, ((0, 1, G, 1), (1, 2, 1, 1), (2, 3, G, 1), (0, 2, G, 4), (1, 3, G, 5)))
# A way into the begin, one out of the end, one without room; place 3 is come to by none that has room.
ODD = (5, (
    (0, 1, 3, 1), (1, 4, 2, 2), (1, 0, 9, 1), (4, 2, 9, 1), (0, 4, 0, 1), (0, 3, 0, 1), (3, 4, 7, 1), (2, 1, 5, 1),
))
# The end is never come to: no ways, none with room, none that joins.
NEVER = (
    (2, ()), (6, ()), (2, ((0, 1, 0, 1),)), (2, ((1, 0, 5, 1),)), (3, ((0, 1, 5, 2), (1, 2, 0, 1))),
    (3, ((0, 1, 5, 2), (2, 1, 5, 1), (1, 0, 5, 1))), (4, ((0, 1, 5, 1), (2, 3, 5, 1), (0, 2, 0, 1))),
)


def some_nets(count):
    chance = random.Random(20)
    for _ in range(count):
        many = chance.randint(2, 6)
        ways = []
        for _ in range(chance.randint(0, 12)):
            start, to = chance.sample(range(many), 2)
            ways.append((start, to, chance.choice((0, 1, 1, 5)), chance.randint(1, 4)))
        yield (many, tuple(ways))


def grown_net(net, times):
    """One of some_nets with rooms up to the bound, and so many times as long ways."""
    return (net[0], tuple((start, to, room * G // 5, hours * times) for start, to, room, hours in net[1]))


def hours_about(lengths):
    """Hours 0 and 1, those about some lengths, and far ones."""
    hours = {0, 1, 12, 10 ** 6, FAR - 1, FAR}
    for length in lengths:
        hours.update((length - 1, length, length + 1))
    return sorted(hours)


def walks_between(net, start, goal):
    """All walks, by trying every row of unlike places and every way between neighbours."""
    many, ways = net
    if start == goal:
        return [()]
    between = [place for place in range(many) if place not in (start, goal)]
    walks = []
    for length in range(len(between) + 1):
        for middle in permutations(between, length):
            rows = [()]
            row = (start,) + middle + (goal,)
            for here, there in zip(row, row[1:]):
                fitting = [n for n, way in enumerate(ways) if way[:2] == (here, there) and way[2] > 0]
                rows = [old + (n,) for old in rows for n in fitting]
            walks.extend(rows)
    return sorted(walks)


def hours_of(net, walk):
    return sum(net[1][number][3] for number in walk)


# (many, pairs of places, hours): what goes across, the shortest, stands in the way of two others
# and has to be gone back over where all is to be brought.
ACROSS = (
    (4, ((0, 1), (1, 2), (2, 3), (0, 2), (1, 3)), (1, 1, 1, 4, 5)),
    (6, ((0, 1), (1, 2), (2, 5), (0, 3), (3, 2), (1, 4), (4, 5)), (1, 1, 2, 1, 3, 3, 2)),
)


def small_nets(count):
    """Nets with so little room that all streams can be tried; in two thirds a walk leads across others."""
    chance = random.Random(41)
    while count > 0:
        ways = []
        many = chance.randint(2, 6)
        if count % 3:
            many, pairs, hours = ACROSS[count % 3 - 1]
            ways = [pair + (chance.choice((1, 1, 1, 2)), long) for pair, long in zip(pairs, hours)]
        for _ in range(chance.randint(0, 9 - len(ways))):
            ways.append((*chance.sample(range(many), 2), chance.choice((0, 1, 1, 2, 2, 3)), chance.randint(1, 6)))
        chance.shuffle(ways)
        if math.prod(way[2] + 1 for way in ways) <= 1500:
            count -= 1
            yield (many, tuple(ways))


def stays_of(net, stream):
    """For each place what comes to it in a stream, less what leaves it."""
    stays = [0] * net[0]
    for (start, to, _, _), loads in zip(net[1], stream):
        stays[start] -= loads
        stays[to] += loads
    return stays


def streams_of(net):
    """All streams with their rates, by trying every row of loads."""
    for loads in product(*(range(way[2] + 1) for way in net[1])):
        stays = stays_of(net, loads)
        if not any(stays[1:-1]) and stays[0] <= 0:
            yield list(loads), -stays[0]


def sides_of(net):
    """All sides, by taking or leaving each place amid."""
    for taken in product((False, True), repeat=net[0] - 2):
        yield (0,) + tuple(place for place, lies in enumerate(taken, 1) if lies)


def least_hours_of(net):
    """For each rate the fewest hours of all its streams."""
    least = {}
    for stream, rate in streams_of(net):
        hours = sum(loads * way[3] for loads, way in zip(stream, net[1]))
        least[rate] = min(hours, least.get(rate, hours))
    return least


def stood(net, plan, place, hour):
    """What has come to a place by an hour, less what has left it."""
    come = sum(loads for at, way, loads in plan if net[1][way][1] == place and at + net[1][way][3] <= hour)
    return come - sum(loads for at, way, loads in plan if net[1][way][0] == place and at <= hour)


def sent(net, plan, hour):
    """What leaves the begin in an hour or later, less what comes to it."""
    left = sum(loads for at, way, loads in plan if net[1][way][0] == 0 and at >= hour)
    return left - sum(loads for at, way, loads in plan if net[1][way][1] == 0 and at + net[1][way][3] >= hour)


def only_whole(thing):
    """Whether all numbers in a told thing are whole ones, True and False being none."""
    if isinstance(thing, (list, tuple)):
        return all(only_whole(part) for part in thing)
    return type(thing) is int


def tiny_nets(count):
    """Nets so small that all plans of a few hours can be tried."""
    chance = random.Random(62)
    for _ in range(count):
        many = chance.randint(2, 4)
        ways = []
        for _ in range(chance.randint(1, 5)):
            ways.append((*chance.sample(range(many), 2), chance.choice((0, 1, 1, 2)), chance.choice((1, 1, 2, 3))))
        yield (many, tuple(ways))


def most_by_trying(net, last):
    """The most that any right plan has brought by an hour, by trying all that may go in, hour by hour."""
    many, ways = net

    @lru_cache(maxsize=None)
    def best(hour, stands, under):
        stands = list(stands)
        for out, place, loads in under:
            stands[place] += loads if out == hour else 0
        if hour == last:
            return stands[-1]
        tops = [0 if hour + long > last else min(room, stands[start]) if start else room
                for start, to, room, long in ways]
        found = 0
        for loads in product(*(range(top + 1) for top in tops)):
            left = list(stands)
            for (start, to, room, long), taken in zip(ways, loads):
                left[start] -= taken if start else 0
            if min(left) >= 0:
                gone = [(hour + way[3], way[1], taken) for way, taken in zip(ways, loads) if taken and way[1]]
                rest = [triple for triple in under if triple[0] > hour]
                found = max(found, best(hour + 1, tuple(left), tuple(sorted(rest + gone))))
        return found

    return best(0, (0,) * many, ())


def most_by_hours(net, last):
    """The most by an hour: place by place and hour by hour, as much as ever fits from the begin to the end."""
    many, ways = net
    room = {}
    for start, to, loads, long in ways:
        for hour in range(last - long + 1):
            step = ((start, hour), (to, hour + long))
            room[step] = room.get(step, 0) + loads
    for place in range(many):
        for hour in range(last):
            room[((place, hour), (place, hour + 1))] = math.inf
    joined = {}
    for one, other in list(room):
        joined.setdefault(one, set()).add(other)
        joined.setdefault(other, set()).add(one)
        room.setdefault((other, one), 0)
    most = 0
    while True:
        come = {(0, 0): None}
        row = deque(come)
        while row and (many - 1, last) not in come:
            here = row.popleft()
            for there in sorted(joined.get(here, ())):
                if there not in come and room[(here, there)] > 0:
                    come[there] = here
                    row.append(there)
        if (many - 1, last) not in come:
            return most
        steps = []
        there = (many - 1, last)
        while come[there] is not None:
            steps.append((come[there], there))
            there = come[there]
        loads = min(room[step] for step in steps)
        for one, other in steps:
            room[(one, other)] -= loads
            room[(other, one)] += loads
        most += loads


def some_calendars(count):
    """Calendars whose rooms and waiting rooms are often just too small."""
    chance = random.Random(91)
    for number in range(count):
        many = chance.randint(2, 5)
        last = chance.choice((0, 1, 3, 5, 6)) if number % 4 else 6
        ways = [(*chance.sample(range(many), 2), chance.choice((1, 1, 2, 3, 7))) for _ in range(chance.randint(0, 8))]
        rooms = [tuple(chance.choice((0, 1, 2, 3)) for _ in range(last + 1)) for _ in ways]
        waits = [None] * many
        for place in range(1, many - 1):
            if chance.random() < 0.7:
                waits[place] = tuple(chance.choice((0, 0, 1, 2)) for _ in range(last))
        yield (many, last, tuple(ways), tuple(rooms), tuple(waits))


def some_cal_plan(chance, calendar):
    """Triples, made hour by hour of what stands; more than may may be left waiting."""
    many, last, ways, rooms, waits = calendar
    net = (many, tuple((start, to, 0, hours) for start, to, hours in ways))
    plan = []
    for hour in range(last):
        for number, (start, to, hours) in chance.sample(list(enumerate(ways)), len(ways)):
            room = rooms[number][hour]
            there = room if start == 0 else min(room, stood(net, plan, start, hour))
            if there > 0 and hour + hours <= last and chance.random() < (0.4 if start == 0 else 0.9):
                plan.append((hour, number, chance.choice((1, there, there))))
    return sorted(plan)


def spoilt_plan(chance, plan):
    """A list of triples with one thing otherwise than in a plan."""
    number = chance.randrange(len(plan))
    hour, way, loads = plan[number]
    other = list(plan)
    other[number] = chance.choice((
        (hour, way, loads + 1), (hour, way, 0), (hour - 1, way, loads), (hour + 1, way, loads), (hour, way + 1, loads),
        (hour, -1, loads), (hour, way, -loads), (-1, way, loads), (hour, HUGE, loads), (HUGE, way, loads),
    ))
    return chance.choice((other, sorted(other), plan + [plan[number]], sorted(plan + [plan[number]]), plan[1:]))
