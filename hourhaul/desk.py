"""A desk that keeps a net, is told rows and answers each with a text [14.3], [14.4]."""

from hourhaul.always import always_plan
from hourhaul.bends import bends_of
from hourhaul.closed import most_by
from hourhaul.errors import NoBack
from hourhaul.lanes import open_net
from hourhaul.nets import less_way, put_way, turned_net, with_room
from hourhaul.rows import read_row
from hourhaul.soonest import gain_at, hour_for
from hourhaul.starts import most_from, soonest_all
from hourhaul.sums import least_coming
from hourhaul.texts import net_text, plan_text, read_net
from hourhaul.worths import room_loss, room_worth


def bends_text(bends):
    if len(bends) == 0:
        return "-"
    return " ".join([f"{length}:{loads}" for length, loads in bends])


# A number, or None for what never comes.
def number_asked(net, word, numbers):
    if word == "most":
        return most_by(net, numbers[0])
    if word == "gain":
        return gain_at(net, numbers[0])
    if word == "soonest":
        return hour_for(bends_of(net), numbers[0])
    if word == "coming":
        return least_coming(net, numbers[0])
    if word == "from":
        return most_from(net, numbers[1:], numbers[0])
    if word == "all":
        return soonest_all(net, numbers + (0,))
    if word == "both":
        return most_by(open_net(net), numbers[0])
    if word == "worth":
        return room_worth(net, numbers[1], numbers[0])
    return room_loss(net, numbers[1], numbers[0])


def answer_to(net, word, numbers):
    if word == "tell":
        return net_text(net)
    if word == "bends":
        return bends_text(bends_of(net))
    if word == "plan":
        return plan_text(always_plan(net, numbers[0]))
    number = number_asked(net, word, numbers)
    return "never" if number is None else str(number)


# None where the row is no deed.
def net_after(net, word, numbers):
    if word == "way":
        return put_way(net, numbers)
    if word == "less":
        return less_way(net, numbers[0])
    if word == "room":
        return with_room(net, numbers[0], numbers[1])
    if word == "turn":
        return turned_net(net)
    return None


class HaulDesk:
    # The nets after each deed that stands, the first net ahead of them.
    def __init__(self):
        self.nets = [(2, ())]

    def say(self, row):
        if isinstance(row, str) and row[:4] == "net ":
            return self.keep_net(read_net(row))
        told = read_row(self.nets[-1], row)
        if told[0] == "back":
            return self.take_back()
        after = net_after(self.nets[-1], told[0], told[1])
        if after is not None:
            return self.keep_net(after)
        return answer_to(self.nets[-1], told[0], told[1])

    def keep_net(self, net):
        self.nets.append(net)
        return "ok"

    def take_back(self):
        if len(self.nets) == 1:
            raise NoBack("no deed stands")
        self.nets.pop()
        return "ok"
