import random
import unittest

from cal_samples import are_lit_by_words, some_cal_plan, some_calendars, some_lit, spoilt_lit, sum_by_words
from hourhaul.calendars import net_calendar
from hourhaul.calplans import cal_brought, cal_right
from hourhaul.closed import closed_hours, closed_sum
from hourhaul.hournets import lit_sum
from samples import BACK, G, HUGE, NEVER, ODD, PLAIN, only_whole, some_nets

# Two may wait at 1 from hour 0 to 1, five from 1 to 2; any at 2.
CALENDAR = (
    4, 2, ((0, 1, 1), (1, 3, 1), (0, 2, 1), (2, 3, 1), (0, 3, 2), (0, 3, 3)),
    ((10, 20, 30), (100, 200, 300), (1000, 2000, 3000), (10000, 20000, 30000), (7, 8, 9), (9, 9, 9)),
    (None, (2, 5), None, None),
)
BEGIN = [(0, 0), (0, 1), (0, 2)]


class LitSum(unittest.TestCase):
    def check(self, total, lit, calendar=CALENDAR):
        kept = list(lit)
        told = lit_sum(calendar, lit)
        self.assertEqual(told, total, (calendar, lit))
        self.assertTrue(told is None or only_whole(told))
        self.assertEqual(lit, kept)
        self.assertEqual(sum_by_words(calendar, lit) if are_lit_by_words(calendar, lit) else None, total)

    def test_sums(self):
        # ways 0 and 2 in hours 0 and 1, way 4 in hour 0; way 5 comes out too late
        self.check(10 + 20 + 1000 + 2000 + 7, BEGIN)
        # lit in hour 1: all that goes in at 1 in hour 1, and what waits there from 1 to 2
        self.check(20 + 200 + 5 + 1000 + 2000 + 7, BEGIN + [(1, 1)])
        self.check(10 + 20 + 100 + 2 + 1000 + 2000 + 7, BEGIN + [(1, 0)])
        self.check(10 + 20 - 10 - 20 + 200 + 1000 + 2000 + 7, BEGIN + [(1, 1), (1, 2)])
        self.check(10 + 100 + 2 + 1000 + 2000 + 7, BEGIN + [(1, 0), (1, 2)])
        self.check(100 + 200 + 1000 + 2000 + 7, BEGIN + [(1, 0), (1, 1), (1, 2)])
        self.check(10 + 20 + 1000 + 7, BEGIN + [(2, 2)])
        self.check(10 + 20 + 20000 + 7, BEGIN + [(2, 1), (2, 2)])
        self.check(10 + 20 + 10000 + 20000 + 7, BEGIN + [(2, 0), (2, 1), (2, 2)])
        self.check(20 + 200 + 5 + 1000 + 7, BEGIN + [(1, 1), (2, 2)])

    def test_all_of_the_begin(self):
        self.check(None, [])
        for number in range(3):
            self.check(None, BEGIN[:number] + BEGIN[number + 1:])
            self.check(None, BEGIN[:number] + BEGIN[number + 1:] + [(1, 1)])
        self.check(None, [(1, 0)])

    def test_none_of_the_end(self):
        for hour in range(3):
            self.check(None, BEGIN + [(3, hour)])
        self.check(None, BEGIN + [(3, 0), (3, 1), (3, 2)])
        self.check(None, [(0, 0), (1, 0)], (2, 0, (), (), (None, None)))
        self.check(0, [(0, 0)], (2, 0, (), (), (None, None)))

    def test_hours_and_places_that_there_are_none_of(self):
        for pair in ((0, 3), (1, 3), (2, 3), (1, HUGE), (4, 0), (4, 2), (5, 1), (HUGE, 0)):
            self.check(None, sorted(BEGIN + [pair]))
        for pair in ((0, -1), (1, -1), (-1, 0), (-1, 2), (-4, 0), (-HUGE, 1), (1, -HUGE), (-3, 1)):
            self.check(None, sorted(BEGIN + [pair]))
        # any may wait at 2, but there is no hour 3 to be lit in
        self.check(None, BEGIN + [(2, 2), (2, 3)])

    def test_rising_and_unlike(self):
        self.check(None, BEGIN + [(1, 2), (1, 1)])
        self.check(None, [(1, 1)] + BEGIN)
        self.check(None, BEGIN + [(1, 1), (1, 1)])
        self.check(None, BEGIN[:1] + BEGIN)
        self.check(None, [(0, 1), (0, 0), (0, 2)])
        self.check(None, BEGIN[::-1])

    def test_a_place_that_lets_any_wait_stays_lit(self):
        for pairs in ([(2, 0)], [(2, 1)], [(2, 0), (2, 1)], [(2, 0), (2, 2)]):
            self.check(None, BEGIN + pairs)
        # a place with rooms to wait needn't, though they be great
        calendar = CALENDAR[:4] + ((None, (G, 0), None, None),)
        self.check(10 + 20 + 100 + G + 1000 + 2000 + 7, BEGIN + [(1, 0)], calendar)
        self.check(20 + 200 + 1000 + 2000 + 7, BEGIN + [(1, 1)], calendar)

    def test_the_hour_nought(self):
        calendar = (3, 0, ((0, 1, 1), (1, 2, 1)), ((5,), (5,)), (None, (), None))
        self.check(0, [(0, 0)], calendar)
        self.check(0, [(0, 0), (1, 0)], calendar)
        self.check(None, [(0, 0), (2, 0)], calendar)
        self.check(None, [(0, 0), (0, 1)], calendar)
        self.check(0, [(0, 0), (1, 0)], (3, 0, (), (), (None, None, None)))

    def test_ways_into_the_begin_and_out_of_the_end_add_nothing(self):
        calendar = (3, 2, ((1, 0, 1), (2, 0, 1), (2, 1, 1), (1, 2, 9)), ((9, 9, 9),) * 4, (None, (1, 2), None))
        for pairs, total in (([], 0), ([(1, 0)], 1), ([(1, 1)], 2), ([(1, 0), (1, 2)], 1), ([(1, 2)], 0)):
            self.check(total, BEGIN + pairs, calendar)

    def test_great_rooms(self):
        calendar = (3, 12, ((0, 2, 1),) * 12, ((G,) * 13,) * 12, (None, None, None))
        self.check(12 * 12 * G, [(0, hour) for hour in range(13)], calendar)

    def test_drawn_and_spoilt(self):
        chance = random.Random(97)
        seen = {True: 0, False: 0}
        for calendar in some_calendars(300):
            for _ in range(3):
                lit = some_lit(chance, calendar)
                for tried in (lit, spoilt_lit(chance, calendar, lit), spoilt_lit(chance, calendar, lit)):
                    right = are_lit_by_words(calendar, tried)
                    self.check(sum_by_words(calendar, tried) if right else None, tried, calendar)
                    seen[right] += 1
        self.assertGreater(min(seen.values()), 400)

    def test_no_right_plan_brings_more_than_the_sum_of_any_lit_pairs(self):
        chance = random.Random(98)
        seen = 0
        for calendar in some_calendars(300):
            plans = [some_cal_plan(chance, calendar) for _ in range(3)]
            brought = max([cal_brought(calendar, plan)[-1] for plan in plans if cal_right(calendar, plan)], default=0)
            for _ in range(4):
                lit = some_lit(chance, calendar)
                if are_lit_by_words(calendar, lit):
                    self.assertGreaterEqual(lit_sum(calendar, lit), brought)
                    seen += brought > 0
        self.assertGreater(seen, 100)

    def test_in_a_nets_calendar_closed_hours_are_lit_pairs(self):
        for net in list(some_nets(80)) + [PLAIN, BACK, ODD] + list(NEVER):
            for last in (0, 5, 12):
                closed = closed_hours(net, last)
                lit = [(place, hour) for place in range(net[0]) for hour in range(closed[place], last + 1)]
                self.assertEqual(lit_sum(net_calendar(net, last), lit), closed_sum(net, last, closed))


if __name__ == "__main__":
    unittest.main()
