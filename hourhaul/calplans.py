"""What plans carry where rooms change by hours and places have little room to wait [9.2]."""

from hourhaul.carried import brought_by, plan_clean, plan_right, sent_from, stands_at


# With the greatest rooms of all hours, the net lets by each plan that the calendar does; what the calendar
# asks beyond that is asked by itself.
def roomiest_net(calendar):
    ways = [(way[0], way[1], max(row), way[2]) for way, row in zip(calendar[2], calendar[3])]
    return (calendar[0], tuple(ways))


def within_hours_rooms(calendar, plan):
    return all([loads <= calendar[3][way][hour] for hour, way, loads in plan])


def within_waits(calendar, plan, place):
    waits = calendar[4][place]
    if waits is None:
        return True
    return all([cal_stands(calendar, plan, place, hour) <= room for hour, room in enumerate(waits)])


# Asked of plans that are right in the roomiest net alone: others have hours and ways that there are no rooms of.
def hours_hold(calendar, plan):
    if not within_hours_rooms(calendar, plan):
        return False
    return all([within_waits(calendar, plan, place) for place in range(1, calendar[0])])


def cal_right(calendar, plan):
    return plan_right(roomiest_net(calendar), calendar[1], plan) and hours_hold(calendar, plan)


def cal_clean(calendar, plan):
    return plan_clean(roomiest_net(calendar), calendar[1], plan) and hours_hold(calendar, plan)


def cal_stands(calendar, plan, place, hour):
    return stands_at(roomiest_net(calendar), plan, place, hour)


def cal_brought(calendar, plan):
    net = roomiest_net(calendar)
    return [brought_by(net, plan, hour) for hour in range(calendar[1] + 1)]


def cal_sent(calendar, plan):
    net = roomiest_net(calendar)
    return [sent_from(net, plan, hour) for hour in range(calendar[1] + 1)]
