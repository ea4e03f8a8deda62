"""Rounds that are gone by an hour, and what they bring [6.3]."""

from hourhaul.closed import stream_by
from hourhaul.gone import gone_plan, times_gone
from hourhaul.streams import rounds_fit, stream_rounds
from hourhaul.walks import walk_length


# A light stream has no rings, and no walk over it is longer than the last of its bends,
# so all of it goes into rounds, and none of these is too long.
def best_rounds(net, last):
    return stream_rounds(net, stream_by(net, last))


def rounds_bring(net, last, rounds):
    if not rounds_fit(net, rounds):
        return None
    return sum([loads * times_gone(last, walk_length(net, walk)) for walk, loads in rounds])


def steps_forth(walk):
    return tuple([(number, True) for number in walk])


def rounds_plan(net, last, rounds):
    return gone_plan(net, last, [(steps_forth(walk), loads) for walk, loads in rounds])
