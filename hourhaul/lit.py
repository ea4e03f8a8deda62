"""The most of a calendar with lit pairs that show it, the first and the last lit pairs, narrow ways [10.2], [10.3]."""

from hourhaul.calendars import turned_calendar
from hourhaul.calplans import cal_brought, cal_clean
from hourhaul.fullest import fullest_stream
from hourhaul.hourly import hour_net, hours_plan, side_pairs, ways_gone
from hourhaul.hournets import lit_sum


def most_in(calendar):
    told = fullest_stream(hour_net(calendar))
    return (told[0], hours_plan(calendar, told[1]), side_pairs(calendar, told[2]))


# No plan brings more than any lit pairs' sum, so a plan and lit pairs of one number show each other to be the best.
def most_right(calendar, told):
    if not cal_clean(calendar, told[1]):
        return False
    return cal_brought(calendar, told[1])[-1] == told[0] and lit_sum(calendar, told[2]) == told[0]


# The told side is what more could still come to. None of that can be left out: else the sum were above the most.
def first_lit(calendar):
    return most_in(calendar)[2]


# Turned about, more could still go on to the end from just the first lit pairs there, so none of them can be lit
# here, and all others can. The pairs are then numbered from the other end.
def last_lit(calendar):
    after = calendar[0] * (calendar[1] + 1)
    dark = fullest_stream(hour_net(turned_calendar(calendar)))[2]
    return side_pairs(calendar, [number for number in range(after) if after - 1 - number not in dark])


# Ways to the begin and from the end aren't asked: the begin is always lit, the end never.
def narrow_ways(calendar):
    first = first_lit(calendar)
    last = last_lit(calendar)
    narrow = []
    for number, hour in ways_gone(calendar):
        way = calendar[2][number]
        if (way[0], hour) in first and (way[1], hour + way[2]) not in last:
            narrow.append((number, hour))
    return narrow
