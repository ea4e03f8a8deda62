"""Lit pairs of place and hour, and what can leave them [10.1]."""

from hourhaul.kinds import is_rising


# A place that lets any wait stays lit: else no number would bound what leaves.
def stays_lit(calendar, shown, place, hour):
    return hour == calendar[1] or calendar[4][place] is not None or (place, hour + 1) in shown


def is_lit_pair(calendar, shown, place, hour):
    if not 0 <= place < calendar[0] - 1 or not 0 <= hour <= calendar[1]:
        return False
    return stays_lit(calendar, shown, place, hour)


def are_lit(calendar, lit, shown):
    if not is_rising(lit) or not all([(0, hour) in shown for hour in range(calendar[1] + 1)]):
        return False
    return all([is_lit_pair(calendar, shown, place, hour) for place, hour in lit])


def goes_out(shown, here, there):
    return here in shown and there not in shown


def ways_out_sum(calendar, shown):
    total = 0
    for way, rooms in zip(calendar[2], calendar[3]):
        for hour in range(calendar[1] - way[2] + 1):
            if goes_out(shown, (way[0], hour), (way[1], hour + way[2])):
                total += rooms[hour]
    return total


def waits_out_sum(calendar, shown):
    total = 0
    for place, waits in enumerate(calendar[4]):
        if waits is not None:
            for hour, room in enumerate(waits):
                if goes_out(shown, (place, hour), (place, hour + 1)):
                    total += room
    return total


def lit_sum(calendar, lit):
    shown = {}
    for pair in lit:
        shown[pair] = True
    if not are_lit(calendar, lit, shown):
        return None
    return ways_out_sum(calendar, shown) + waits_out_sum(calendar, shown)
