"""Plans laid together, put off, cut short and turned about [3.1], [3.3]."""


def laid_plans(one, other):
    together = {}
    for hour, way, loads in one + other:
        together[(hour, way)] = together.get((hour, way), 0) + loads
    return [(hour, way, together[(hour, way)]) for hour, way in sorted(together)]


def later_plan(plan, hours):
    return sorted([(hour + hours, way, loads) for hour, way, loads in plan])


def hour_out(net, hour, way):
    return hour + net[1][way][3]


def plan_till(net, plan, hour):
    return sorted([triple for triple in plan if hour_out(net, triple[0], triple[1]) <= hour])


def turned_plan(net, last, plan):
    return sorted([(last - hour_out(net, hour, way), way, loads) for hour, way, loads in plan])
