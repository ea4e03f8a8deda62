"""Many starts: the most from them by an hour, and whether all stores can be brought by it [12.1] to [12.3]."""

from hourhaul.bends import bends_of
from hourhaul.calplans import cal_brought, cal_right
from hourhaul.closed import closed_hours, closed_sum, most_by
from hourhaul.kinds import is_rising
from hourhaul.lit import most_in
from hourhaul.soonest import hour_for


# All starts are the begin together; the other places keep their order behind it.
def joined_places(net, starts):
    others = [place for place in range(net[0]) if place not in starts]
    return [0 if place in starts else others.index(place) + 1 for place in range(net[0])]


# What goes from start to start brings nothing, as the stores have no bound.
def joined_net(net, starts):
    joined = joined_places(net, starts)
    ways = [(joined[way[0]], joined[way[1]], way[2], way[3]) for way in net[1]]
    return (max(joined) + 1, tuple([way for way in ways if way[0] != way[1]]))


def most_from(net, starts, last):
    return most_by(joined_net(net, starts), last)


def closed_from(net, starts, last):
    closed = closed_hours(joined_net(net, starts), last)
    return [closed[place] for place in joined_places(net, starts)]


# A way from start to start would add nothing to the sum either.
def from_sum(net, starts, last, closed):
    if len(closed) != net[0] or not all([closed[place] == 0 for place in starts]):
        return None
    others = [hour for place, hour in enumerate(closed) if place not in starts]
    return closed_sum(joined_net(net, starts), last, [0] + others)


# The stores come, in the first of one hour more, over ways of their own from a begin ahead of all places.
def stores_calendar(net, stores, last):
    ways = [(way[0] + 1, way[1] + 1, way[3]) for way in net[1]]
    rooms = [(0,) + (way[2],) * (last + 1) for way in net[1]]
    for place in range(net[0] - 1):
        ways.append((0, place + 1, 1))
        rooms.append((stores[place],) + (0,) * (last + 1))
    return (net[0] + 1, last + 1, tuple(ways), tuple(rooms), (None,) * (net[0] + 1))


def stores_coming(net, stores):
    return [(0, len(net[1]) + place, store) for place, store in enumerate(stores) if store > 0]


def stores_right(net, stores, last, plan):
    calendar = stores_calendar(net, stores, last)
    whole = stores_coming(net, stores) + [(hour + 1, way, loads) for hour, way, loads in plan]
    return cal_right(calendar, whole) and cal_brought(calendar, whole)[-1] == sum(stores)


# Any may wait, so a place once lit stays so: as many hours as it is lit it closes ahead of the hour after the last.
def lit_closed(net, last, lit):
    return [last + 1 - len([pair for pair in lit if pair[0] == place + 1]) for place in range(net[0])]


def bring_all(net, stores, last):
    most = most_in(stores_calendar(net, stores, last))
    if most[0] == sum(stores):
        own = len(net[1])
        return ("plan", [(hour - 1, way, loads) for hour, way, loads in most[1] if way < own])
    closed = lit_closed(net, last, most[2])
    return ("starts", tuple([place for place in range(net[0]) if closed[place] == 0]), closed)


def are_starts(net, starts):
    return is_rising(starts) and all([0 <= place < net[0] - 1 for place in starts])


def short_right(net, stores, last, starts, closed):
    if not are_starts(net, starts):
        return False
    most = from_sum(net, starts, last, closed)
    return most is not None and most < sum([stores[place] for place in starts])


def bring_right(net, stores, last, told):
    if told[0] == "plan" and len(told) == 2:
        return stores_right(net, stores, last, told[1])
    return told[0] == "starts" and len(told) == 3 and short_right(net, stores, last, told[1], told[2])


def sets_of(places):
    sets = [()]
    for place in places:
        sets = sets + [starts + (place,) for starts in sets]
    return sets


# Each set of starts needs an hour of its own; by the latest of these hours all stores can be brought. Starts without
# stores ask for nothing more.
def soonest_all(net, stores):
    latest = 0
    for starts in sets_of([place for place, store in enumerate(stores) if store > 0])[1:]:
        hour = hour_for(bends_of(joined_net(net, starts)), sum([stores[place] for place in starts]))
        if hour is None:
            return None
        latest = max(latest, hour)
    return latest
