"""Walks over ways that have room, and how long they take [2.1], [2.2]."""

from hourhaul.errors import NoWalk, TooMany
from hourhaul.nets import turned_net, ways_out

MOST_WALKS = 60


def hours_from(net, start):
    hours = [None] * net[0]
    hours[start] = 0
    changed = True
    while changed:
        changed = False
        for way in net[1]:
            if way[2] > 0 and hours[way[0]] is not None:
                come = hours[way[0]] + way[3]
                if hours[way[1]] is None or come < hours[way[1]]:
                    hours[way[1]] = come
                    changed = True
    return hours


def soonest_hours(net):
    return hours_from(net, 0)


# Turned about, the walks to a place are walks from it.
def hours_to(net, place):
    return list(reversed(hours_from(turned_net(net), net[0] - 1 - place)))


def is_soonest_step(way, left):
    return way[2] > 0 and left[way[1]] is not None and way[3] + left[way[1]] == left[way[0]]


# No shortest walk is the beginning of another, so the least number
# at each step gives the least tuple.
def soonest_walk(net, place):
    if not 0 <= place < net[0]:
        raise NoWalk("there is no such place")
    left = hours_to(net, place)
    if left[0] is None:
        raise NoWalk("no walk leads there")
    walk = []
    here = 0
    while here != place:
        step = min([number for number in ways_out(net, here) if is_soonest_step(net[1][number], left)])
        walk.append(step)
        here = net[1][step][1]
    return tuple(walk)


# Each walk goes with the places it has come to, as it may come to none of them again.
def steps_on(net, walk, places):
    further = []
    for number in ways_out(net, places[-1]):
        way = net[1][number]
        if way[2] > 0 and way[1] not in places:
            further.append((walk + (number,), places + (way[1],)))
    return further


def all_walks(net):
    found = []
    begun = [((), (0,))]
    while len(begun) > 0:
        latest = begun.pop()
        if latest[1][-1] == net[0] - 1:
            found.append(latest[0])
        else:
            begun.extend(steps_on(net, latest[0], latest[1]))
        if len(found) > MOST_WALKS:
            raise TooMany("there are more than sixty walks")
    return sorted(found)


def walk_places(net, walk):
    places = []
    for number in walk:
        if not 0 <= number < len(net[1]) or net[1][number][2] < 1:
            raise NoWalk("no way with room has this number")
        way = net[1][number]
        if len(places) == 0:
            places.append(way[0])
        if way[0] != places[-1] or way[1] in places:
            raise NoWalk("the ways don't join, or a place is come to twice")
        places.append(way[1])
    return tuple(places)


def walk_length(net, walk):
    walk_places(net, walk)
    return sum([net[1][number][3] for number in walk])
