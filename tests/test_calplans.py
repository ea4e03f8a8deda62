import random
import unittest

from cal_samples import clean_by_words, right_by_words, sent_there, some_cal_plan, some_calendars, stood_there
from hourhaul.calendars import net_calendar
from hourhaul.calplans import cal_brought, cal_clean, cal_right, cal_sent, cal_stands
from hourhaul.carried import brought_by, plan_clean, plan_right, sent_from, stands_at
from samples import HUGE, ODD, PLAIN, only_whole, some_nets, spoilt_plan

# 0 -> 1 -> 3 with two to wait at 1 from hour 1 to 2, one from 2 to 3; 0 -> 2 -> 3 with any at 2;
# way 4 leads back to the begin, way 5 away from the end.
CALENDAR = (
    4, 5, ((0, 1, 1), (1, 3, 2), (0, 2, 1), (2, 3, 1), (1, 0, 1), (3, 2, 1)),
    ((5, 2, 0, 5, 5, 5), (3, 3, 1, 2, 3, 3), (4, 4, 4, 4, 4, 4), (0, 0, 1, 2, 9, 9), (9,) * 6, (9,) * 6),
    (None, (0, 2, 1, 0, 0), None, None),
)
CLEAN = [(0, 0, 4), (1, 1, 3), (2, 1, 1)]


class Right(unittest.TestCase):
    def check(self, right, plan, calendar=CALENDAR):
        kept = list(plan)
        self.assertIs(cal_right(calendar, plan), right, (calendar, plan))
        self.assertEqual(plan, kept)
        self.assertEqual(right_by_words(calendar, plan), right)

    def test_the_room_of_just_that_hour(self):
        for hour, room in ((0, 4), (3, 4)):
            self.check(True, [(hour, 2, room)])
            self.check(False, [(hour, 2, room + 1)])
        # way 3's room of hours 1, 2 and 3 is 0, 1 and 2
        self.check(False, [(0, 2, 4), (1, 3, 1)])
        self.check(True, [(0, 2, 4), (2, 3, 1)])
        self.check(False, [(0, 2, 4), (2, 3, 2)])
        self.check(True, [(0, 2, 4), (3, 3, 2)])
        self.check(False, [(0, 2, 4), (3, 3, 3)])
        self.check(True, [(0, 2, 4), (4, 3, 4)])
        self.check(False, [(0, 2, 4), (4, 3, HUGE)])
        # a way without room in hour 2
        self.check(False, [(2, 0, 1)])

    def test_waiting_room_just_enough_and_one_too_small(self):
        self.check(True, CLEAN)
        # three go on in hour 1, two and one wait
        self.check(True, [(0, 0, 5), (1, 1, 3), (2, 1, 1), (3, 1, 1)])
        self.check(False, [(0, 0, 5), (1, 1, 2), (2, 1, 1), (3, 1, 1)])
        self.check(False, [(0, 0, 5), (1, 1, 3), (3, 1, 2)])
        self.check(False, [(0, 0, 5), (1, 1, 3), (2, 1, 1)])
        self.check(True, [(0, 0, 2), (1, 4, 1), (2, 1, 1)])
        # one may wait from 2 to 3, none from 3 to 4
        self.check(True, [(0, 0, 1), (3, 1, 1)])
        self.check(False, [(0, 0, 1), (4, 4, 1)])
        self.check(True, [(1, 0, 2), (2, 1, 1), (3, 1, 1)])

    def test_any_waiting(self):
        self.check(True, [(0, 2, 4), (1, 2, 4), (2, 2, 4), (3, 2, 4)])
        self.check(True, [(0, 2, 4), (1, 2, 4), (4, 3, 8)])

    def test_what_comes_in_an_hour_leaves_in_it_and_no_sooner(self):
        self.check(True, [(0, 0, 3), (1, 1, 3)])
        self.check(False, [(0, 0, 3), (0, 1, 1), (1, 1, 2)])
        self.check(False, [(1, 0, 1), (1, 1, 1)])
        self.check(False, [(0, 0, 2), (1, 1, 3)])
        # what leaves at once waits nowhere, though there is no room to wait
        net = (3, 2, ((0, 1, 1), (1, 2, 1)), ((9, 9, 9), (9, 9, 9)), (None, (0, 0), None))
        self.check(True, [(0, 0, 9), (1, 1, 9)], net)
        self.check(False, [(0, 0, 9), (1, 1, 8)], net)

    def test_the_last_hour(self):
        self.check(True, [(4, 0, 5)])
        self.check(False, [(5, 0, 1)])
        self.check(True, [(4, 2, 4)])
        self.check(True, [(3, 2, 4), (4, 3, 4)])
        self.check(False, [(3, 2, 4), (5, 3, 4)])
        # in the last hour any stand: no waiting room is asked beyond it
        narrow = (3, 2, ((0, 1, 1), (0, 1, 2)), ((9, 9, 9), (9, 9, 9)), (None, (0, 0), None))
        self.check(True, [(0, 1, 9), (1, 0, 9)], narrow)
        self.check(False, [(0, 0, 1)], narrow)
        self.check(False, [(0, 0, 1)], (2, 0, ((0, 1, 1),), ((9,),), (None, None)))
        self.check(True, [], (2, 0, ((0, 1, 1),), ((9,),), (None, None)))

    def test_ways_to_the_begin_and_from_the_end(self):
        self.check(True, [(0, 0, 4), (1, 1, 3), (1, 4, 1)])
        self.check(True, [(0, 0, 3), (1, 1, 3), (3, 5, 2)])
        self.check(False, [(0, 0, 3), (1, 1, 3), (2, 5, 2)])
        self.check(False, [(0, 0, 3), (1, 1, 3), (3, 5, 4)])

    def test_what_is_no_plan(self):
        for plan in (
            CLEAN[::-1], CLEAN + CLEAN[-1:], CLEAN[:1] + CLEAN, [(0, 2, 0)], [(0, 2, -1)], [(-1, 2, 1)], [(0, 6, 1)],
            [(0, -1, 1)], [(0, -4, 1)], [(0, HUGE, 1)], [(HUGE, 2, 1)], [(-HUGE, 2, 1)], [(0, 2, -HUGE)], [(6, 2, 1)],
            [(0, 0, 1), (0, 0, 2)], CLEAN + [(3, 2, 0)],
        ):
            self.check(False, plan)
        self.check(False, [(0, 0, 1)], (2, 3, (), (), (None, None)))
        self.check(True, [], (2, 3, (), (), (None, None)))

    def test_ways_of_more_hours_than_the_last(self):
        calendar = (2, 3, ((0, 1, 10 ** 6), (0, 1, 4), (0, 1, 3)), ((9,) * 4,) * 3, (None, None))
        self.check(False, [(0, 0, 1)], calendar)
        self.check(False, [(0, 1, 1)], calendar)
        self.check(True, [(0, 2, 1)], calendar)

    def test_against_the_words_of_the_document(self):
        chance = random.Random(94)
        seen = {True: 0, False: 0}
        clean = 0
        for calendar in some_calendars(500):
            plan = some_cal_plan(chance, calendar)
            for tried in [plan] + [spoilt_plan(chance, plan) for _ in range(4) if plan]:
                right = right_by_words(calendar, tried)
                self.check(right, tried, calendar)
                cleaned = clean_by_words(calendar, tried)
                self.assertIs(cal_clean(calendar, tried), cleaned, (calendar, tried))
                seen[right] += len(tried) > 0
                clean += cleaned and len(tried) > 1
        self.assertGreater(min(seen.values()), 200)
        self.assertGreater(clean, 30)


class Clean(unittest.TestCase):
    def check(self, clean, plan, calendar=CALENDAR):
        kept = list(plan)
        self.assertIs(cal_clean(calendar, plan), clean, (calendar, plan))
        self.assertEqual(plan, kept)
        self.assertEqual(clean_by_words(calendar, plan), clean)

    def test_told(self):
        self.check(True, CLEAN)
        self.check(True, [])
        self.check(True, [(0, 2, 3), (2, 3, 1), (3, 3, 2)])
        # something stands at 2 in the last hour, at 1 in the last hour
        self.check(False, [(0, 2, 4), (2, 3, 1), (3, 3, 2)])
        self.check(False, [(4, 0, 1)])
        # a way to the begin, a way from the end
        self.check(False, [(0, 0, 4), (1, 1, 3), (1, 4, 1)])
        self.check(False, [(0, 0, 3), (1, 1, 3), (3, 5, 2), (4, 3, 2)])

    def test_what_is_not_right_is_not_clean(self):
        for plan in (
            [(0, 0, 3), (1, 1, 1), (2, 1, 1), (3, 1, 1), (4, 1, 0)], [(0, 2, 4), (2, 3, 2), (3, 3, 2)], CLEAN[::-1],
            [(0, 0, 5), (1, 1, 2), (2, 1, 1), (3, 1, 2)], [(0, -1, 1)], [(0, HUGE, 1)],
            [(0, 0, 5), (1, 1, 1), (2, 1, 1), (3, 1, 2), (4, 4, 1)],
        ):
            self.check(False, plan)


class Rows(unittest.TestCase):
    def check(self, calendar, plan):
        kept = list(plan)
        hours = range(calendar[1] + 1)
        brought, sent = cal_brought(calendar, plan), cal_sent(calendar, plan)
        self.assertIs(type(brought), list)
        self.assertIs(type(sent), list)
        self.assertEqual(brought, [stood_there(calendar, plan, calendar[0] - 1, hour) for hour in hours])
        self.assertEqual(sent, [sent_there(calendar, plan, hour) for hour in hours])
        for place in range(1, calendar[0]):
            stands = [cal_stands(calendar, plan, place, hour) for hour in hours]
            self.assertEqual(stands, [stood_there(calendar, plan, place, hour) for hour in hours])
            self.assertTrue(only_whole(stands))
        self.assertTrue(only_whole([brought, sent]))
        self.assertEqual(plan, kept)
        return brought, sent

    def test_told(self):
        self.assertEqual(self.check(CALENDAR, CLEAN), ([0, 0, 0, 3, 4, 4], [4, 0, 0, 0, 0, 0]))
        self.assertEqual(self.check(CALENDAR, []), ([0] * 6, [0] * 6))
        # one of five comes back to the begin in hour 2; two leave the end in hour 3, and come again in 5
        plan = [(0, 0, 5), (1, 1, 3), (1, 4, 1), (2, 1, 1), (3, 5, 2), (4, 3, 2)]
        self.assertTrue(cal_right(CALENDAR, plan))
        self.assertEqual(self.check(CALENDAR, plan), ([0, 0, 0, 1, 2, 4], [4, -1, -1, 0, 0, 0]))
        self.assertEqual([cal_stands(CALENDAR, plan, 1, hour) for hour in range(6)], [0, 1, 0, 0, 0, 0])
        self.assertEqual([cal_stands(CALENDAR, plan, 2, hour) for hour in range(6)], [0, 0, 0, 0, 0, 0])
        self.assertEqual(self.check((2, 0, (), (), (None, None)), []), ([0], [0]))

    def test_drawn(self):
        chance = random.Random(95)
        for calendar in some_calendars(200):
            plan = some_cal_plan(chance, calendar)
            if right_by_words(calendar, plan):
                self.check(calendar, plan)

    def test_the_told_lists_are_the_askers_own(self):
        cal_brought(CALENDAR, CLEAN).clear()
        cal_sent(CALENDAR, CLEAN).clear()
        self.assertEqual(cal_brought(CALENDAR, CLEAN), [0, 0, 0, 3, 4, 4])
        self.assertEqual(cal_sent(CALENDAR, CLEAN), [4, 0, 0, 0, 0, 0])


class AsInTheNet(unittest.TestCase):
    def test_right_clean_brought_sent_and_stands(self):
        chance = random.Random(96)
        seen = {True: 0, False: 0}
        for net in list(some_nets(150)) + [PLAIN, ODD]:
            for last in (0, 4, 7):
                calendar = net_calendar(net, last)
                plan = some_cal_plan(chance, calendar)
                for tried in [plan] + [spoilt_plan(chance, plan) for _ in range(3) if plan]:
                    right = plan_right(net, last, tried)
                    self.assertIs(cal_right(calendar, tried), right)
                    self.assertIs(cal_clean(calendar, tried), plan_clean(net, last, tried))
                    seen[right] += 1
                    if right:
                        hours = range(last + 1)
                        self.assertEqual(cal_brought(calendar, tried), [brought_by(net, tried, hour) for hour in hours])
                        self.assertEqual(cal_sent(calendar, tried), [sent_from(net, tried, hour) for hour in hours])
                        for place in range(1, net[0]):
                            for hour in hours:
                                there = stands_at(net, tried, place, hour)
                                self.assertEqual(cal_stands(calendar, tried, place, hour), there)
        self.assertGreater(min(seen.values()), 200)


if __name__ == "__main__":
    unittest.main()
