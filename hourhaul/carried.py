"""What plans carry: whether they are right and clean, what stands, what is brought and sent [3.1] to [3.3]."""

from hourhaul.kinds import is_rising
from hourhaul.plans import hour_out


def is_plan(triples):
    if not all([hour >= 0 and loads >= 1 for hour, way, loads in triples]):
        return False
    return is_rising([(hour, way) for hour, way, loads in triples])


# The number of the way is asked first: there may be none to ask the room or the hours of.
def triple_fits(net, last, triple):
    return (
        0 <= triple[1] < len(net[1])
        and triple[2] <= net[1][triple[1]][2]
        and hour_out(net, triple[0], triple[1]) <= last
    )


# What comes in an hour may leave in it, so each hour's loads count together.
def changes_at(net, plan, place):
    changes = {}
    for hour, way, loads in plan:
        if net[1][way][1] == place:
            out = hour_out(net, hour, way)
            changes[out] = changes.get(out, 0) + loads
        if net[1][way][0] == place:
            changes[hour] = changes.get(hour, 0) - loads
    return changes


def never_short(net, plan, place):
    changes = changes_at(net, plan, place)
    standing = 0
    for hour in sorted(changes):
        standing += changes[hour]
        if standing < 0:
            return False
    return True


def plan_right(net, last, plan):
    if not is_plan(plan) or not all([triple_fits(net, last, triple) for triple in plan]):
        return False
    return all([never_short(net, plan, place) for place in range(1, net[0])])


def is_clean_way(net, number):
    return net[1][number][1] != 0 and net[1][number][0] != net[0] - 1


def plan_clean(net, last, plan):
    if not plan_right(net, last, plan) or not all([is_clean_way(net, way) for hour, way, loads in plan]):
        return False
    return all([stands_at(net, plan, place, last) == 0 for place in range(1, net[0] - 1)])


def stands_at(net, plan, place, hour):
    changes = changes_at(net, plan, place)
    return sum([changes[at] for at in changes if at <= hour])


def brought_by(net, plan, hour):
    return stands_at(net, plan, net[0] - 1, hour)


def sent_from(net, plan, hour):
    changes = changes_at(net, plan, 0)
    return -sum([changes[at] for at in changes if at >= hour])
