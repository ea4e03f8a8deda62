"""What a room more is worth by an hour, what a room less loses, and the gap of closed hours between [13.2]."""

from hourhaul.closed import closed_gap, most_by
from hourhaul.nets import known_way, with_room


def room_worth(net, last, number):
    room = known_way(net, number)[2]
    return most_by(with_room(net, number, room + 1), last) - most_by(net, last)


def room_loss(net, last, number):
    room = known_way(net, number)[2]
    return most_by(net, last) - most_by(with_room(net, number, max(0, room - 1)), last)


def gap_of(net, closed, number):
    return closed_gap(known_way(net, number), closed)
