"""Calendars: nets whose rooms change by hours, with rooms to wait [9.1], [9.3]."""

from hourhaul.errors import BadTable
from hourhaul.kinds import is_row, whole_within
from hourhaul.nets import LEAST_PLACES, MOST_PLACES, MOST_ROOM, MOST_WAYS, is_way

MOST_LAST = 12


# A calendar's way is a net's way without its room.
def is_hour_way(many, thing):
    return is_row(thing) and len(thing) == 3 and is_way(many, (thing[0], thing[1], 0, thing[2]))


def are_hour_ways(many, thing):
    return is_row(thing) and len(thing) <= MOST_WAYS and all([is_hour_way(many, way) for way in thing])


def are_rooms(count, thing):
    return is_row(thing) and len(thing) == count and all([whole_within(room, 0, MOST_ROOM) for room in thing])


def are_all_rooms(ways, last, thing):
    return is_row(thing) and len(thing) == len(ways) and all([are_rooms(last + 1, row) for row in thing])


def are_all_waits(many, last, thing):
    if not is_row(thing) or len(thing) != many or thing[0] is not None or thing[-1] is not None:
        return False
    return all([row is None or are_rooms(last, row) for row in thing])


def rows_kept(rows):
    return tuple([None if row is None else tuple(row) for row in rows])


# Each thing is asked only where those ahead of it are as they should be, as it is measured by them.
def made_calendar(many, last, ways, rooms, waits):
    if not whole_within(many, LEAST_PLACES, MOST_PLACES):
        raise BadTable(0)
    if not whole_within(last, 0, MOST_LAST):
        raise BadTable(1)
    if not are_hour_ways(many, ways):
        raise BadTable(2)
    if not are_all_rooms(ways, last, rooms):
        raise BadTable(3)
    if not are_all_waits(many, last, waits):
        raise BadTable(4)
    return (many, last, rows_kept(ways), rows_kept(rooms), rows_kept(waits))


def net_calendar(net, last):
    ways = [(way[0], way[1], way[3]) for way in net[1]]
    rooms = [(way[2],) * (last + 1) for way in net[1]]
    return (net[0], last, tuple(ways), tuple(rooms), (None,) * net[0])


def till_calendar(calendar, hour):
    rooms = [row[:hour + 1] for row in calendar[3]]
    waits = [None if row is None else row[:hour] for row in calendar[4]]
    return (calendar[0], hour, calendar[2], tuple(rooms), tuple(waits))


def late_calendar(calendar, hour):
    rooms = [(0,) * hour + row[hour:] if way[0] == 0 else row for way, row in zip(calendar[2], calendar[3])]
    return (calendar[0], calendar[1], calendar[2], tuple(rooms), calendar[4])


# What goes in in an hour comes out so many hours later: turned about, it goes in where it came out.
def turned_rooms(last, hours, row):
    return tuple([row[last - hour - hours] if hour + hours <= last else 0 for hour in range(last + 1)])


def turned_calendar(calendar):
    end = calendar[0] - 1
    last = calendar[1]
    ways = [(end - way[1], end - way[0], way[2]) for way in calendar[2]]
    rooms = [turned_rooms(last, way[2], row) for way, row in zip(calendar[2], calendar[3])]
    waits = [None if row is None else tuple(reversed(row)) for row in reversed(calendar[4])]
    return (calendar[0], last, tuple(ways), tuple(rooms), tuple(waits))
