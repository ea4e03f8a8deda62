"""The hours in which loads come to the end, added up, and plans in which they are fewest [8.4]."""

from hourhaul.always import always_plan
from hourhaul.bends import bends_of
from hourhaul.carried import brought_by, plan_clean
from hourhaul.errors import BadHour, NoWalk
from hourhaul.gone import without_noughts
from hourhaul.plans import hour_out, laid_plans
from hourhaul.soonest import hour_for

LAST_PLANNED = 12


def first_numbers_sum(count):
    return count * (count + 1) // 2


# From the soonest hour on nothing is wanting, so only the hours ahead of it count. In these
# the most of a bend is its loads once, twice, three times and so on.
def least_coming(net, loads):
    bends = bends_of(net)
    last = hour_for(bends, loads)
    if last is None:
        return None
    brought = sum([more * first_numbers_sum(last - length) for length, more in bends if length < last])
    return last * loads - brought


# A clean plan goes no way from the end, so each load comes there once.
def coming_hours(net, plan):
    end = net[0] - 1
    return sum([hour_out(net, hour, way) * loads for hour, way, loads in plan if net[1][way][1] == end])


def comes_to(net, triple, place, hour):
    return net[1][triple[1]][1] == place and hour_out(net, triple[0], triple[1]) == hour


# Nobody waits in the plan, so what goes on from a place in an hour has come to it in that very hour.
def traced_back(net, last, plan):
    traced = []
    place = net[0] - 1
    hour = last
    while place != 0:
        step = [triple for triple in plan if comes_to(net, triple, place, hour)][0]
        traced.append(step)
        place = net[1][step[1]][0]
        hour = step[0]
    return traced


# Loads that come to the end in the last hour are taken off again, with all steps that they came by.
def less_at_last(net, last, plan, loads):
    rest = plan
    left = loads
    while left > 0:
        traced = traced_back(net, last, rest)
        taken = min([left] + [triple[2] for triple in traced])
        rest = without_noughts(laid_plans(rest, [(hour, way, -taken) for hour, way, there in traced]))
        left -= taken
    return rest


# Ahead of the soonest hour fewer can have come than are wanted, so what comes above them comes in that hour.
def coming_plan(net, loads):
    last = hour_for(bends_of(net), loads)
    if last is None:
        raise NoWalk("nothing can ever be brought")
    if last > LAST_PLANNED:
        raise BadHour("plans are told to hour 12 alone")
    plan = always_plan(net, last)
    return (last, less_at_last(net, last, plan, brought_by(net, plan, last) - loads))


def coming_right(net, loads, told):
    last = told[0]
    plan = told[1]
    if last > LAST_PLANNED or last != hour_for(bends_of(net), loads) or not plan_clean(net, last, plan):
        return False
    return brought_by(net, plan, last) == loads and coming_hours(net, plan) == least_coming(net, loads)
