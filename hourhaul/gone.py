"""The plans of what is gone again in every hour: of chains, and of rounds, which are chains that go nothing back."""

from hourhaul.left import step_hours, steps_hours
from hourhaul.plans import laid_plans


# Longer ones are never begun.
def times_gone(last, length):
    return max(0, last - length + 1)


def without_noughts(plan):
    return [triple for triple in plan if triple[2] != 0]


# Back over a way the hours run back as well: loads are taken off where they would have gone in.
def steps_plan(net, begun, steps, loads):
    triples = []
    hour = begun
    for step in steps:
        if step[1]:
            triples.append((hour, step[0], loads))
        hour += step_hours(net, step)
        if not step[1]:
            triples.append((hour, step[0], -loads))
    return triples


def gone_plan(net, last, chains):
    triples = []
    for steps, loads in chains:
        for begun in range(times_gone(last, steps_hours(net, steps))):
            triples.extend(steps_plan(net, begun, steps, loads))
    return without_noughts(laid_plans(triples, []))
