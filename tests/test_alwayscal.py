import random
import unittest

from cal_samples import (
    all_lit, are_lit_by_words, cal_most_by_trying, clean_by_words, great_calendars, sent_there, some_calendars,
    spoilt_lit, stood_there, sum_by_words, tiny_calendars,
)
from hourhaul.alwayscal import cal_always, cal_always_right, early_row, late_row
from hourhaul.calendars import late_calendar, net_calendar, till_calendar, turned_calendar
from hourhaul.closed import most_by
from hourhaul.lit import last_lit, most_in
from samples import BACK, G, GREAT, HUGE, NEVER, ODD, PLAIN, only_whole, some_nets, spoilt_plan

# Place 1 has no room to wait: what goes in in hours 0 and 1 takes a way of its own each, and can wait at place 2 alone.
CALENDAR = (
    4, 4, ((0, 2, 1), (2, 3, 1), (0, 1, 1), (1, 3, 1)), ((2, 2, 2, 2, 2), (0, 1, 2, 2, 2), (1, 0, 1, 0, 1), (9,) * 5),
    (None, (0,) * 4, None, None),
)
# Early at every hour and late at every hour are two: all five can leave in hour 0 or 1, and come in hour 2 or 3.
SLACK = (3, 3, ((0, 1, 1), (1, 2, 1)), ((5, 5, 5, 5), (5, 2, 3, 5)), (None, None, None))


def brought_row(calendar, plan):
    return [stood_there(calendar, plan, calendar[0] - 1, hour) for hour in range(calendar[1] + 1)]


def sent_row(calendar, plan):
    return [sent_there(calendar, plan, hour) for hour in range(calendar[1] + 1)]


def right_by_the_words(calendar, told):
    """11.3, the rows being told by the most of each calendar."""
    plan, early, late = told
    hours = calendar[1] + 1
    tills = [till_calendar(calendar, hour) for hour in range(hours)]
    lates = [late_calendar(calendar, hour) for hour in range(hours)]
    if not clean_by_words(calendar, plan) or len(early) != hours or len(late) != hours:
        return False
    if [most_in(till)[0] for till in tills] != brought_row(calendar, plan):
        return False
    if [most_in(from_then)[0] for from_then in lates] != sent_row(calendar, plan):
        return False
    for other, lit in zip(tills + lates, early + late):
        if not are_lit_by_words(other, lit) or sum_by_words(other, lit) != most_in(other)[0]:
            return False
    return True


class Rows(unittest.TestCase):
    def check(self, calendar, early, late):
        for told, row in ((early_row(calendar), early), (late_row(calendar), late)):
            self.assertIs(type(told), list)
            self.assertTrue(only_whole(told))
            self.assertEqual(told, row, calendar)

    def test_told(self):
        self.check(CALENDAR, [0, 0, 2, 4, 7], [7, 5, 3, 0, 0])
        self.check(SLACK, [0, 0, 2, 5], [5, 3, 0, 0])
        self.check((2, 0, ((0, 1, 1),), ((5,),), (None, None)), [0], [0])
        self.check((2, 2, ((0, 1, 1),), ((5, 4, 3),), (None, None)), [0, 5, 9], [9, 4, 0])
        self.check((2, 3, ((0, 1, 4),), ((5,) * 4,), (None, None)), [0] * 4, [0] * 4)
        self.check((5, 12, (), (), (None,) * 5), [0] * 13, [0] * 13)

    def test_the_most_of_each_calendar_till_an_hour_and_late_from_it(self):
        grown = 0
        for calendar in tiny_calendars(150):
            hours = range(calendar[1] + 1)
            early = [cal_most_by_trying(till_calendar(calendar, hour)) for hour in hours]
            late = [cal_most_by_trying(late_calendar(calendar, hour)) for hour in hours]
            self.check(calendar, early, late)
            grown += len(set(early + late)) > 2
        self.assertGreater(grown, 15)
        for calendar in list(some_calendars(150)) + list(great_calendars(30)):
            hours = range(calendar[1] + 1)
            early = [most_in(till_calendar(calendar, hour))[0] for hour in hours]
            late = [most_in(late_calendar(calendar, hour))[0] for hour in hours]
            self.check(calendar, early, late)

    def test_in_a_nets_calendar(self):
        for net in list(some_nets(120)) + [PLAIN, BACK, GREAT, ODD] + list(NEVER):
            for last in (0, 4, 9, 12):
                most = [most_by(net, hour) for hour in range(last + 1)]
                self.check(net_calendar(net, last), most, most[::-1])

    def test_turned_about_early_is_late(self):
        for calendar in some_calendars(100):
            turned = turned_calendar(calendar)
            self.check(turned, late_row(calendar)[::-1], early_row(calendar)[::-1])

    def test_the_told_lists_are_the_askers_own(self):
        early_row(SLACK).clear()
        late_row(SLACK).clear()
        self.check(SLACK, [0, 0, 2, 5], [5, 3, 0, 0])


class Told(unittest.TestCase):
    def check(self, calendar):
        told = cal_always(calendar)
        self.assertIs(type(told), tuple)
        plan, early, late = told
        for thing in [plan, early, late] + early + late:
            self.assertIs(type(thing), list)
        for thing in plan + sum(early, []) + sum(late, []):
            self.assertIs(type(thing), tuple)
        self.assertTrue(only_whole(told))
        self.assertTrue(clean_by_words(calendar, plan), (calendar, plan))
        self.assertEqual(brought_row(calendar, plan), early_row(calendar))
        self.assertEqual(sent_row(calendar, plan), late_row(calendar))
        self.assertEqual((len(early), len(late)), (calendar[1] + 1,) * 2)
        for hour in range(calendar[1] + 1):
            for part, lit, row in (
                (till_calendar(calendar, hour), early[hour], early_row(calendar)),
                (late_calendar(calendar, hour), late[hour], late_row(calendar)),
            ):
                self.assertTrue(are_lit_by_words(part, lit), (part, lit))
                self.assertEqual(sum_by_words(part, lit), row[hour])
        self.assertIs(cal_always_right(calendar, told), True)
        self.assertEqual(cal_always(calendar), told)
        lists = [plan, early, late] + early + late
        self.assertEqual(len({id(thing) for thing in lists}), len(lists))

    def test_told(self):
        self.check(CALENDAR)
        self.assertEqual(cal_always(SLACK)[0], [(0, 0, 2), (1, 0, 3), (1, 1, 2), (2, 1, 3)])
        self.check(SLACK)

    def test_hour_nought_no_ways_ways_too_long(self):
        for last in (0, 1, 12):
            for ways in ((), ((0, 2, last + 1), (1, 2, 10 ** 6)), ((1, 0, 1), (2, 1, 1))):
                calendar = (3, last, ways, ((G,) * (last + 1),) * len(ways), (None, (0,) * last, None))
                self.assertEqual(cal_always(calendar)[0], [])
                self.check(calendar)

    def test_drawn(self):
        for calendar in list(tiny_calendars(150)) + list(some_calendars(150)):
            self.check(calendar)

    def test_great_rooms_to_hour_12(self):
        for calendar in great_calendars(25):
            self.check(calendar)

    def test_of_nets(self):
        for net in list(some_nets(40)) + [PLAIN, BACK, GREAT, ODD] + list(NEVER):
            self.check(net_calendar(net, 7))
        for net in (PLAIN, BACK, GREAT, ODD):
            self.check(net_calendar(net, 12))

    def test_what_is_told_is_the_askers_own(self):
        kept = cal_always(SLACK)
        told = cal_always(SLACK)
        for lit in told[1] + told[2]:
            lit.clear()
        told[0].clear()
        self.assertEqual(cal_always(SLACK), kept)


class Judged(unittest.TestCase):
    PLAN = [(0, 0, 2), (1, 0, 3), (1, 1, 2), (2, 1, 3)]
    BEGIN = [(0, 0), (0, 1), (0, 2), (0, 3)]
    EARLY = [BEGIN[:1], BEGIN[:2] + [(1, 1)], BEGIN[:3] + [(1, 1), (1, 2)], BEGIN + [(1, 1), (1, 2), (1, 3)]]
    LATE = [BEGIN + [(1, 1), (1, 2), (1, 3)], BEGIN + [(1, 2), (1, 3)], BEGIN + [(1, 3)], BEGIN + [(1, 3)]]

    def check(self, right, told, calendar=SLACK):
        kept = (list(told[0]), [list(lit) for lit in told[1]], [list(lit) for lit in told[2]])
        self.assertIs(cal_always_right(calendar, told), right, (calendar, told))
        self.assertEqual(told, kept)
        self.assertEqual(right_by_the_words(calendar, told), right)

    def test_right(self):
        self.check(True, (self.PLAN, self.EARLY, self.LATE))

    def test_early_and_not_late_late_and_not_early(self):
        # all leave as soon as they can; all come in time, but one an hour later than it could
        early = [(0, 0, 5), (1, 1, 2), (2, 1, 3)]
        self.assertEqual(brought_row(SLACK, early), early_row(SLACK))
        self.check(False, (early, self.EARLY, self.LATE))
        slack = SLACK[:3] + (((5, 5, 5, 5), (5, 2, 9, 5)),) + SLACK[4:]
        told = cal_always(slack)
        late = [(0, 0, 5), (1, 0, 5), (1, 1, 1), (2, 1, 9)]
        self.assertEqual(sent_row(slack, late), late_row(slack))
        self.assertEqual((brought_row(slack, late), early_row(slack)), ([0, 0, 1, 10], [0, 0, 2, 10]))
        self.check(True, told, slack)
        self.check(False, (late,) + told[1:], slack)

    def test_a_plan_that_is_not_clean_or_brings_fewer(self):
        for plan in (
            [], [(0, 0, 2), (1, 0, 2), (1, 1, 2), (2, 1, 2)], [(0, 0, 2), (1, 0, 4), (1, 1, 2), (2, 1, 3)],
            self.PLAN + [(2, 0, 1)], self.PLAN[::-1], self.PLAN + self.PLAN[-1:], [(0, 0, 2), (1, 0, 3), (1, 1, 3)],
            self.PLAN + [(3, 2, 1)], self.PLAN + [(3, -1, 1)], self.PLAN + [(HUGE, 0, 1)],
        ):
            self.check(False, (plan, self.EARLY, self.LATE))

    def test_one_list_with_another_sum_or_that_is_none(self):
        for hour in range(4):
            for lists, other in ((self.EARLY, 0), (self.LATE, 1)):
                for lit in (
                    [], lists[hour][1:], lists[hour] + lists[hour][-1:], lists[hour][::-1] + [(2, 0)],
                    lists[hour] + [(2, 3)], lists[hour] + [(1, HUGE)], [(-1, 0)] + lists[hour],
                    sorted(set(lists[hour] + [(1, at) for at in range(len(lists[hour]))])),
                ):
                    changed = lists[:hour] + [lit] + lists[hour + 1:]
                    told = (self.PLAN, self.LATE if other else changed, changed if other else self.LATE)
                    self.check(right_by_the_words(SLACK, told), told)
        self.check(False, (self.PLAN, self.EARLY[:3] + [self.BEGIN + [(1, 2), (1, 3)]], self.LATE))
        self.check(False, (self.PLAN, self.EARLY, [self.BEGIN] + self.LATE[1:]))

    def test_lists_too_few_too_many_or_in_another_order(self):
        for early, late in (
            (self.EARLY[:3], self.LATE), (self.EARLY, self.LATE[:3]), (self.EARLY + self.EARLY[3:], self.LATE),
            (self.EARLY, self.LATE + self.LATE[3:]), ([], self.LATE), (self.EARLY, []), ([], []),
            (self.EARLY[1:], self.LATE), (self.EARLY, self.LATE[1:]), (self.LATE, self.EARLY),
            (self.EARLY[::-1], self.LATE), (self.EARLY, self.LATE[::-1]), (self.EARLY + [[]] * 30, self.LATE),
            (self.EARLY, self.LATE + [[]] * 30), (self.EARLY + [self.BEGIN] * 9, self.LATE + [self.BEGIN] * 9),
        ):
            self.check(False, (self.PLAN, early, late))
        # as if there were hours beyond the last
        beyond = [[(0, hour) for hour in range(last + 1)] for last in range(4, 9)]
        self.check(False, (self.PLAN, self.EARLY + beyond, self.LATE))
        self.check(False, (self.PLAN, self.EARLY, self.LATE + beyond))
        self.check(False, (self.PLAN, self.EARLY + beyond, self.LATE + beyond))

    def test_the_least_calendar(self):
        calendar = (2, 0, (), (), (None, None))
        self.check(True, ([], [[(0, 0)]], [[(0, 0)]]), calendar)
        for told in (
            ([], [[]], [[(0, 0)]]), ([], [[(0, 0)]], [[]]), ([], [], []), ([(0, 0, 1)], [[(0, 0)]], [[(0, 0)]]),
            ([], [[(0, 0), (1, 0)]], [[(0, 0)]]), ([], [[(0, 0)]] * 2, [[(0, 0)]]),
        ):
            self.check(False, told, calendar)

    def test_other_lit_pairs_of_tiny_calendars(self):
        chance = random.Random(115)
        seen = {True: 0, False: 0}
        for calendar in tiny_calendars(60):
            plan, early, late = cal_always(calendar)
            for hour in range(calendar[1] + 1):
                lits = list(all_lit(till_calendar(calendar, hour)))
                for lit in chance.sample(lits, min(4, len(lits))):
                    told = (plan, early[:hour] + [lit] + early[hour + 1:], late)
                    right = right_by_the_words(calendar, told)
                    self.check(right, told, calendar)
                    seen[right] += 1
                lits = list(all_lit(late_calendar(calendar, hour)))
                for lit in chance.sample(lits, min(4, len(lits))):
                    told = (plan, early, late[:hour] + [lit] + late[hour + 1:])
                    right = right_by_the_words(calendar, told)
                    self.check(right, told, calendar)
                    seen[right] += 1
        self.assertGreater(min(seen.values()), 60)

    def test_the_last_lit_pairs(self):
        for calendar in some_calendars(60):
            hours = range(calendar[1] + 1)
            early = [last_lit(till_calendar(calendar, hour)) for hour in hours]
            late = [last_lit(late_calendar(calendar, hour)) for hour in hours]
            self.check(True, (cal_always(calendar)[0], early, late), calendar)

    def test_spoilt(self):
        chance = random.Random(114)
        seen = {True: 0, False: 0}
        for calendar in some_calendars(120):
            plan, early, late = cal_always(calendar)
            hour = chance.randrange(calendar[1] + 1)
            others = [early[:hour] + [spoilt_lit(chance, calendar, early[hour])] + early[hour + 1:]]
            tried = [(plan, lists, late) for lists in others]
            others = [late[:hour] + [spoilt_lit(chance, calendar, late[hour])] + late[hour + 1:]]
            tried += [(plan, early, lists) for lists in others]
            tried += [(spoilt_plan(chance, plan), early, late)] if plan else []
            tried += [(most_in(calendar)[1], early, late)]
            for told in tried:
                right = right_by_the_words(calendar, told)
                self.check(right, told, calendar)
                seen[right] += 1
        self.assertGreater(min(seen.values()), 20)


if __name__ == "__main__":
    unittest.main()
