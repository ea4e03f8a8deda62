"""Plans that have brought the most at every hour at once, and send as late as can be at every hour, where rooms
change [11.1] to [11.3]."""

from hourhaul.calendars import late_calendar, till_calendar, turned_calendar
from hourhaul.calplans import cal_brought, cal_clean, cal_sent, roomiest_net
from hourhaul.closed import stream_by
from hourhaul.hourly import hour_net, hours_plan
from hourhaul.hournets import lit_sum
from hourhaul.lit import first_lit
from hourhaul.plans import turned_plan


# In the net of its hours, a light stream of all that can come is one whose loads come in the fewest hours, added up:
# so it has brought the most by each of them.
def early_plan(calendar):
    return hours_plan(calendar, stream_by(hour_net(calendar), calendar[1]))


def late_plan(calendar):
    turned = turned_calendar(calendar)
    return turned_plan(roomiest_net(turned), calendar[1], early_plan(turned))


def early_row(calendar):
    return cal_brought(calendar, early_plan(calendar))


def late_row(calendar):
    return cal_sent(calendar, late_plan(calendar))


def begun_in(calendar, triple):
    return (calendar[2][triple[1]][0], triple[0])


# Both plans bring the most, so both fill what goes out of the first lit pairs and go nothing back into them:
# there the late one within joins the early one beyond.
def joined_plan(calendar):
    first = first_lit(calendar)
    within = [triple for triple in late_plan(calendar) if begun_in(calendar, triple) in first]
    beyond = [triple for triple in early_plan(calendar) if begun_in(calendar, triple) not in first]
    return sorted(within + beyond)


def cal_always(calendar):
    early = [first_lit(till_calendar(calendar, hour)) for hour in range(calendar[1] + 1)]
    late = [first_lit(late_calendar(calendar, hour)) for hour in range(calendar[1] + 1)]
    return (joined_plan(calendar), early, late)


# No right plan has brought more, and no clean one sent more, than the lit pairs' sums: where they are what
# the plan has brought and sent, they are the rows' numbers.
def cal_always_right(calendar, told):
    hours = calendar[1] + 1
    if not cal_clean(calendar, told[0]) or len(told[1]) != hours or len(told[2]) != hours:
        return False
    early = [lit_sum(till_calendar(calendar, hour), lit) for hour, lit in enumerate(told[1])]
    late = [lit_sum(late_calendar(calendar, hour), lit) for hour, lit in enumerate(told[2])]
    return early == cal_brought(calendar, told[0]) and late == cal_sent(calendar, told[0])
