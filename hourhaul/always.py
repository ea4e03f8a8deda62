"""Plans that have brought the most at every hour at once, and send as late as can be at every hour [8.3]."""

from hourhaul.bends import bends_of
from hourhaul.carried import brought_by, plan_clean, sent_from
from hourhaul.chains import chains_plan, shortest_chains
from hourhaul.closed import most_of


def always_plan(net, last):
    return chains_plan(net, last, shortest_chains(net, last))


def best_at(net, last, plan, hour, most):
    return brought_by(net, plan, hour) == most and sent_from(net, plan, last - hour) == most


def always_right(net, last, plan):
    if not plan_clean(net, last, plan):
        return False
    bends = bends_of(net)
    return all([best_at(net, last, plan, hour, most_of(bends, hour)) for hour in range(last + 1)])
