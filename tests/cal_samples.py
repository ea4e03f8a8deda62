"""Calendars, plans by them and lit pairs, with slow, plain answers that several tests hold the program against."""

import math
import random
from itertools import product

from samples import G, HUGE, most_tried, stood


def some_calendars(count):
    """Calendars whose rooms and waiting rooms are often just too small."""
    chance = random.Random(91)
    for number in range(count):
        many = chance.randint(2, 5)
        last = chance.choice((0, 1, 3, 5, 6)) if number % 4 else 6
        ways = [(*chance.sample(range(many), 2), chance.choice((1, 1, 2, 3, 7))) for _ in range(chance.randint(0, 8))]
        rooms = [tuple(chance.choice((0, 1, 2, 3)) for _ in range(last + 1)) for _ in ways]
        waits = [None] * many
        for place in range(1, many - 1):
            if chance.random() < 0.7:
                waits[place] = tuple(chance.choice((0, 0, 1, 2)) for _ in range(last))
        yield (many, last, tuple(ways), tuple(rooms), tuple(waits))


def some_cal_plan(chance, calendar):
    """Triples, made hour by hour of what stands; more than may may be left waiting."""
    many, last, ways, rooms, waits = calendar
    net = (many, tuple((start, to, 0, hours) for start, to, hours in ways))
    plan = []
    for hour in range(last):
        for number, (start, to, hours) in chance.sample(list(enumerate(ways)), len(ways)):
            room = rooms[number][hour]
            there = room if start == 0 else min(room, stood(net, plan, start, hour))
            if there > 0 and hour + hours <= last and chance.random() < (0.4 if start == 0 else 0.9):
                plan.append((hour, number, chance.choice((1, there, there))))
    return sorted(plan)


def right_by_words(calendar, plan):
    """9.2 word by word, hour by hour."""
    many, last, ways, rooms, waits = calendar
    for hour, way, loads in plan:
        if hour < 0 or loads < 1 or way not in range(len(ways)):
            return False
        if hour + ways[way][2] > last or loads > rooms[way][hour]:
            return False
    if plan != sorted(plan) or len({triple[:2] for triple in plan}) != len(plan):
        return False
    for place in range(1, many):
        for hour in range(last + 1):
            there = stood_there(calendar, plan, place, hour)
            if there < 0 or (hour < last and waits[place] is not None and there > waits[place][hour]):
                return False
    return True


def clean_by_words(calendar, plan):
    """Clean as in 3.2, by a calendar."""
    if not right_by_words(calendar, plan):
        return False
    ends = [calendar[2][way][:2] for hour, way, loads in plan]
    amid = [stood_there(calendar, plan, place, calendar[1]) for place in range(1, calendar[0] - 1)]
    return not any(amid) and all(start != calendar[0] - 1 and to != 0 for start, to in ends)


def stood_there(calendar, plan, place, hour):
    """What has come to a place of a calendar by an hour, less what has left it."""
    ways = calendar[2]
    come = sum(loads for at, way, loads in plan if ways[way][1] == place and at + ways[way][2] <= hour)
    return come - sum(loads for at, way, loads in plan if ways[way][0] == place and at <= hour)


def sent_there(calendar, plan, hour):
    """What leaves the begin of a calendar in an hour or later, less what comes to it."""
    ways = calendar[2]
    left = sum(loads for at, way, loads in plan if ways[way][0] == 0 and at >= hour)
    return left - sum(loads for at, way, loads in plan if ways[way][1] == 0 and at + ways[way][2] >= hour)


def are_lit_by_words(calendar, lit):
    """10.1 word by word."""
    many, last, ways, rooms, waits = calendar
    if lit != sorted(set(lit)):
        return False
    if any(place not in range(many - 1) or hour not in range(last + 1) for place, hour in lit):
        return False
    if any((0, hour) not in lit for hour in range(last + 1)):
        return False
    for place in range(many):
        for hour in range(last):
            if waits[place] is None and (place, hour) in lit and (place, hour + 1) not in lit:
                return False
    return True


def sum_by_words(calendar, lit):
    """10.1, added one by one."""
    many, last, ways, rooms, waits = calendar
    total = 0
    for number, (start, to, hours) in enumerate(ways):
        for hour in range(last + 1):
            if hour + hours <= last and (start, hour) in lit and (to, hour + hours) not in lit:
                total += rooms[number][hour]
    for place in range(many):
        for hour in range(last):
            if waits[place] is not None and (place, hour) in lit and (place, hour + 1) not in lit:
                total += waits[place][hour]
    return total


def some_lit(chance, calendar):
    """Pairs that are often lit ones."""
    many, last, ways, rooms, waits = calendar
    lit = [(0, hour) for hour in range(last + 1)]
    for place in range(1, many - 1):
        if waits[place] is None and chance.random() < 0.9:
            lit += [(place, hour) for hour in range(chance.randint(0, last + 1), last + 1)]
        else:
            lit += [(place, hour) for hour in range(last + 1) if chance.random() < 0.5]
    return lit


def spoilt_lit(chance, calendar, lit):
    number = chance.randrange(len(lit))
    place, hour = lit[number]
    one_other = list(lit)
    one_other[number] = chance.choice((
        (place, hour + 1), (place, hour - 1), (place + 1, hour), (place - 1, hour), (place, HUGE), (-HUGE, hour),
        (calendar[0] - 1, hour), (calendar[0], hour), (place, calendar[1] + 1), (place, -1), (-1, hour),
    ))
    exchanged = list(lit)
    exchanged[number], exchanged[0] = exchanged[0], exchanged[number]
    return chance.choice((
        lit[:number] + lit[number + 1:], sorted(lit + [lit[number]]), lit + [lit[number]], one_other, sorted(one_other),
        exchanged, lit[::-1], sorted(lit + [(calendar[0] - 1, calendar[1])]),
    ))


def tiny_calendars(count):
    """Calendars so small that all their plans and all their lit pairs can be tried."""
    chance = random.Random(111)
    for number in range(count):
        many = chance.choice((2, 3, 3, 4, 4))
        last = number % 5
        ways = [(*chance.sample(range(many), 2), chance.choice((1, 1, 1, 2, 3))) for _ in range(chance.randint(0, 5))]
        rooms = [tuple(chance.choice((0, 1, 1, 2)) for _ in range(last + 1)) for _ in ways]
        waits = [None] * many
        for place in range(1, many - 1):
            if chance.random() < 0.7:
                waits[place] = tuple(chance.choice((0, 0, 1, 2)) for _ in range(last))
        yield (many, last, tuple(ways), tuple(rooms), tuple(waits))


def great_calendars(count):
    """Calendars of twelve hours with rooms up to the bound."""
    chance = random.Random(112)
    for _ in range(count):
        many = chance.randint(2, 6)
        hours = (1, 1, 1, 2, 3, 5, 12, 13, 10 ** 6)
        ways = [(*chance.sample(range(many), 2), chance.choice(hours)) for _ in range(12)]
        rooms = [tuple(chance.choice((0, 1, G, chance.randint(0, G))) for _ in range(13)) for _ in ways]
        waits = [None] * many
        for place in range(1, many - 1):
            if chance.random() < 0.7:
                waits[place] = tuple(chance.choice((0, 1, G, chance.randint(0, G))) for _ in range(12))
        yield (many, 12, tuple(ways), tuple(rooms), tuple(waits))


def cal_most_by_trying(calendar):
    """The most that any plan right by a calendar brings."""
    return most_tried(calendar, (math.inf,) + (0,) * (calendar[0] - 1))


def all_lit(calendar):
    """All lit pairs of a calendar, by taking or leaving each pair of a place amid."""
    many, last, ways, rooms, waits = calendar
    amid = [(place, hour) for place in range(1, many - 1) for hour in range(last + 1)]
    for taken in product((False, True), repeat=len(amid)):
        lit = [(0, hour) for hour in range(last + 1)] + [pair for pair, lies in zip(amid, taken) if lies]
        if are_lit_by_words(calendar, lit):
            yield lit


def with_hour_room(calendar, way, hour, room):
    """The calendar with another room of one way in one hour."""
    row = calendar[3][way]
    rooms = list(calendar[3])
    rooms[way] = row[:hour] + (room,) + row[hour + 1:]
    return calendar[:3] + (tuple(rooms),) + calendar[4:]
