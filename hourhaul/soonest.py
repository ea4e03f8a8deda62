"""The soonest hour for so many loads, the gains of hours and the hour from which on they stay [7.1], [7.2]."""

from hourhaul.bends import bends_of
from hourhaul.closed import closed_hours, closed_sum, rate_by
from hourhaul.fullest import fullest_stream
from hourhaul.hauls import best_rounds, rounds_bring
from hourhaul.streams import side_right, side_room


# The most by an hour is the greatest of what each first so many of the bends would bring if too long ones
# took loads away: so the soonest hour is the least of those that each first so many need by themselves.
def hour_for(bends, loads):
    hours = []
    rate = 0
    lost = 0
    for length, more in bends:
        rate += more
        lost += length * more
        hours.append((loads + lost + rate - 1) // rate - 1)
    return min(hours, default=None)


def soonest_hour(net, loads):
    last = hour_for(bends_of(net), loads)
    if last is None:
        return ("never", fullest_stream(net)[2])
    return ("by", last, best_rounds(net, last), closed_hours(net, last - 1))


def never_right(net, side):
    return side_right(net, side) and side_room(net, side) == 0


# The rounds show that the hour is late enough, the closed hours that the one ahead of it is too soon.
def by_right(net, loads, last, rounds, closed):
    brought = rounds_bring(net, last, rounds)
    ahead = closed_sum(net, last - 1, closed)
    return brought is not None and ahead is not None and ahead < loads <= brought


def soonest_right(net, loads, told):
    if told[0] == "by" and len(told) == 4:
        return by_right(net, loads, told[1], told[2], told[3])
    return told[0] == "never" and len(told) == 2 and never_right(net, told[1])


def gain_at(net, last):
    return rate_by(net, last)


def steady_hour(net):
    return max([length for length, loads in bends_of(net)], default=None)
