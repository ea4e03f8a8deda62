import random
import unittest

from cal_samples import (
    all_lit, are_lit_by_words, cal_most_by_trying, clean_by_words, great_calendars, some_calendars, spoilt_lit,
    stood_there, sum_by_words, tiny_calendars, with_hour_room,
)
from hourhaul.calendars import net_calendar, turned_calendar
from hourhaul.closed import most_by
from hourhaul.lit import first_lit, last_lit, most_in, most_right, narrow_ways
from samples import BACK, G, GREAT, HUGE, NEVER, ODD, PLAIN, only_whole, some_nets, spoilt_plan

# Five come to place 1 in hour 1 and may wait for hour 2; six get on to the end in all.
CALENDAR = (3, 3, ((0, 1, 1), (1, 2, 1)), ((5, 5, 0, 0), (9, 2, 4, 9)), (None, (0, 3, 0), None))
BEGIN = [(0, 0), (0, 1), (0, 2), (0, 3)]
# Three ways one behind the other: each is as narrow as the next, in the one hour that it is good in.
ROW = (4, 3, ((0, 1, 1), (1, 2, 1), (2, 3, 1)), ((2,) * 4, (2,) * 4, (2,) * 4), (None, (0,) * 3, (0,) * 3, None))


class Told(unittest.TestCase):
    def check(self, most, calendar):
        told = most_in(calendar)
        self.assertIs(type(told), tuple)
        loads, plan, lit = told
        self.assertEqual(loads, most, calendar)
        self.assertIs(type(plan), list)
        self.assertIs(type(lit), list)
        self.assertTrue(all(type(thing) is tuple for thing in plan + lit))
        self.assertTrue(only_whole(told))
        self.assertTrue(clean_by_words(calendar, plan), (calendar, plan))
        self.assertEqual(stood_there(calendar, plan, calendar[0] - 1, calendar[1]), most)
        self.assertTrue(are_lit_by_words(calendar, lit), (calendar, lit))
        self.assertEqual(sum_by_words(calendar, lit), most)
        self.assertEqual(most_in(calendar), told)
        self.assertIs(most_right(calendar, told), True)

    def shown(self, calendar):
        """The told plan and the told lit pairs show each other to be the best, whatever the number is."""
        self.check(most_in(calendar)[0], calendar)

    def test_a_plan_that_has_to_wait_just_so_long(self):
        self.check(6, CALENDAR)
        # nothing is let in in hour 1: what goes on in hour 2 has to wait an hour
        for wait, most in ((4, 5), (3, 5), (2, 4), (1, 3), (0, 2)):
            self.check(most, with_hour_room(CALENDAR[:4] + ((None, (0, wait, 0), None),), 0, 1, 0))
        # only hour 0 lets in, only hour 3 out: two hours to wait
        way = ((0, 1, 1), (1, 2, 1))
        for waits, most in (
            (None, 5), ((0, 9, 9, 0), 5), ((0, 5, 5, 0), 5), ((0, 4, 5, 0), 4), ((0, 5, 3, 0), 3), ((9, 0, 9, 9), 0),
            ((9, 9, 0, 9), 0),
        ):
            self.check(most, (3, 4, way, ((5, 0, 0, 0, 0), (0, 0, 0, 7, 0)), (None, waits, None)))
        # an hour later it is too late
        self.check(0, (3, 4, way, ((5, 0, 0, 0, 0), (0, 0, 0, 0, 7)), (None, None, None)))

    def test_hour_nought(self):
        for ways in ((), ((0, 1, 1),), ((0, 1, 10 ** 6), (1, 0, 1))):
            self.check(0, (2, 0, ways, ((G,),) * len(ways), (None, None)))
        self.check(0, (6, 0, ((0, 5, 1),) * 12, ((G,),) * 12, (None, (), None, (), (), None)))

    def test_no_ways(self):
        for last in (0, 1, 12):
            self.check(0, (2, last, (), (), (None, None)))
            self.check(0, (4, last, (), (), (None, None, (G,) * last, None)))

    def test_ways_of_more_hours_than_the_last(self):
        rooms = ((3, 3, 3, 3, 3),)
        for hours, most in ((1, 12), (2, 9), (3, 6), (4, 3), (5, 0), (6, 0), (10 ** 6, 0)):
            self.check(most, (2, 4, ((0, 1, hours),), rooms, (None, None)))
        self.check(0, (3, 4, ((0, 1, 3), (1, 2, 2)), rooms * 2, (None, None, None)))
        self.check(3, (3, 4, ((0, 1, 2), (1, 2, 2)), rooms * 2, (None, None, None)))

    def test_rooms_of_nought(self):
        ways = ((0, 1, 1), (1, 2, 1))
        for rooms, most in (
            (((0,) * 4, (9,) * 4), 0), (((9,) * 4, (0,) * 4), 0), (((0,) * 4, (0,) * 4), 0),
            (((0, 9, 0, 0), (9, 9, 9, 0)), 9), (((0, 9, 0, 0), (9, 9, 0, 9)), 0), (((0, 0, 9, 9), (9,) * 4), 0),
            (((7, 0, 0, 0), (0, 0, 2, 0)), 2),
        ):
            self.check(most, (3, 3, ways, rooms, (None, None, None)))

    def test_twelve_hours_and_great_rooms(self):
        self.check(12 * 12 * G, (2, 12, ((0, 1, 1),) * 12, ((G,) * 13,) * 12, (None, None)))
        calendar = (3, 12, ((0, 1, 1), (1, 2, 1)), ((G,) * 13, (0,) * 11 + (G, 0)), (None, (G,) * 12, None))
        self.check(G, calendar)
        for calendar in great_calendars(150):
            self.shown(calendar)

    def test_ways_to_the_begin_and_from_the_end_are_of_no_use(self):
        # to the begin, from the end, between both: nothing is brought by any of them
        ways = ((1, 0, 1), (2, 1, 1), (2, 0, 1), (0, 1, 4), (1, 2, 1))
        self.check(2, (3, 5, ways, ((9,) * 6,) * 3 + ((2,) * 6,) * 2, (None, None, None)))
        self.check(0, (2, 5, ((1, 0, 1),), ((9,) * 6,), (None, None)))

    def test_the_best_of_all_right_plans_of_tiny_calendars(self):
        found = []
        for calendar in tiny_calendars(400):
            most = cal_most_by_trying(calendar)
            self.check(most, calendar)
            found.append(most)
        self.assertGreater(len([most for most in found if most > 1]), 40)

    def test_drawn(self):
        for calendar in some_calendars(400):
            self.shown(calendar)

    def test_in_a_nets_calendar_it_is_the_most_by_the_hour(self):
        for net in list(some_nets(150)) + [PLAIN, BACK, GREAT, ODD] + list(NEVER):
            for last in (0, 1, 5, 9, 12):
                self.check(most_by(net, last), net_calendar(net, last))

    def test_what_is_told_is_the_askers_own(self):
        kept = most_in(CALENDAR)
        told = most_in(CALENDAR)
        told[1].clear()
        told[2].clear()
        self.assertEqual(most_in(CALENDAR), kept)


class Judged(unittest.TestCase):
    PLAN = [(0, 0, 5), (1, 0, 1), (1, 1, 2), (2, 1, 4)]
    LIT = BEGIN + [(1, 1), (1, 2)]

    def check(self, right, told, calendar=CALENDAR):
        kept = (told[0], list(told[1]), list(told[2]))
        self.assertIs(most_right(calendar, told), right, (calendar, told))
        self.assertEqual(told, kept)

    def test_other_right_ones(self):
        self.check(True, (6, self.PLAN, self.LIT))
        for plan in (
            [(0, 0, 4), (1, 0, 2), (1, 1, 2), (2, 1, 4)], [(0, 0, 2), (1, 0, 4), (1, 1, 2), (2, 1, 4)],
            [(0, 0, 3), (1, 0, 3), (1, 1, 2), (2, 1, 4)],
        ):
            self.check(True, (6, plan, self.LIT))
        self.check(True, (6, self.PLAN, self.LIT + [(1, 3)]))
        self.check(False, (6, self.PLAN, BEGIN + [(1, 0)] + self.LIT[4:]))

    def test_loads_one_more_or_less(self):
        for loads in (5, 7, 0, -6, HUGE, -HUGE):
            self.check(False, (loads, self.PLAN, self.LIT))

    def test_a_plan_that_brings_fewer(self):
        fewer = [(0, 0, 4), (1, 0, 1), (1, 1, 2), (2, 1, 3)]
        self.check(False, (6, fewer, self.LIT))
        self.check(False, (5, fewer, self.LIT))
        self.check(False, (6, [], self.LIT))
        self.check(False, (0, [], self.LIT))

    def test_a_plan_that_is_right_and_not_clean(self):
        # one more stands at place 1 in the last hour; one goes to the begin; one goes from the end
        calendar = (
            3, 4, ((0, 1, 1), (1, 2, 1), (1, 0, 1), (2, 1, 1)), ((1, 0, 0, 1, 0), (1,) * 5, (1,) * 5, (1,) * 5),
            (None, None, None),
        )
        lit = [(0, hour) for hour in range(5)]
        clean = [(0, 0, 1), (1, 1, 1)]
        self.check(True, (1, clean, lit + [(1, hour) for hour in (4,)]), calendar)
        for plan in (clean + [(3, 0, 1)], [(0, 0, 1), (1, 2, 1)], [(0, 0, 1), (1, 1, 1), (2, 3, 1), (3, 1, 1)]):
            self.check(False, (1, plan, lit + [(1, 4)]), calendar)

    def test_a_plan_that_is_not_right(self):
        for plan in (
            [(0, 0, 5), (1, 0, 1), (1, 1, 3), (2, 1, 3)], [(0, 0, 6), (1, 1, 2), (2, 1, 4)], self.PLAN[::-1],
            self.PLAN + self.PLAN[-1:], [(0, 0, 2), (1, 0, 4), (1, 1, 2), (3, 1, 4)],
            [(0, 0, 5), (1, 0, 1), (1, 1, 1), (2, 1, 5)], [(0, -2, 5), (1, 0, 1), (1, 1, 2), (2, 1, 4)],
            [(0, 0, 5), (1, 0, 1), (1, 1, 2), (2, 1, 4), (2, HUGE, 1)], [(-HUGE, 0, 1)] + self.PLAN,
        ):
            self.check(False, (6, plan, self.LIT))

    def test_lit_pairs_of_a_greater_sum(self):
        for lit in (BEGIN, BEGIN + [(1, 1)], BEGIN + [(1, 0), (1, 1), (1, 2), (1, 3)], BEGIN + [(1, 2)]):
            total = sum_by_words(CALENDAR, lit)
            self.assertGreater(total, 6)
            self.check(False, (6, self.PLAN, lit))
            self.check(False, (total, self.PLAN, lit))

    def test_what_are_no_lit_pairs(self):
        for lit in (
            [], self.LIT[1:], BEGIN[:3] + self.LIT[4:], self.LIT + [(1, 2)], self.LIT[:5] + self.LIT[4:],
            self.LIT[::-1], BEGIN + [(1, 2), (1, 1)], self.LIT + [(2, 3)], self.LIT + [(2, 0)],
            self.LIT + [(1, 4)], BEGIN + [(0, 4), (1, 1), (1, 2)], [(0, -1)] + self.LIT, self.LIT + [(3, 0)],
            self.LIT + [(1, HUGE)], [(-HUGE, 0)] + self.LIT, [(-1, 0)] + self.LIT, BEGIN + [(1, -1)] + self.LIT[4:],
        ):
            self.check(False, (6, self.PLAN, lit))

    def test_a_place_that_lets_any_wait_and_does_not_stay_lit(self):
        calendar = CALENDAR[:4] + ((None, None, None),)
        self.check(True, (6, self.PLAN, self.LIT + [(1, 3)]), calendar)
        self.check(False, (6, self.PLAN, self.LIT), calendar)

    def test_nothing(self):
        calendar = (2, 0, (), (), (None, None))
        self.check(True, (0, [], [(0, 0)]), calendar)
        self.check(False, (1, [], [(0, 0)]), calendar)
        self.check(False, (0, [], []), calendar)
        self.check(False, (0, [(0, 0, 1)], [(0, 0)]), calendar)
        self.check(False, (0, [], [(0, 0), (1, 0)]), calendar)

    def test_all_lit_pairs_of_tiny_calendars(self):
        seen = {True: 0, False: 0}
        for calendar in tiny_calendars(150):
            loads, plan, told = most_in(calendar)
            for lit in all_lit(calendar):
                right = sum_by_words(calendar, lit) == loads
                self.check(right, (loads, plan, lit), calendar)
                seen[right] += 1
        self.assertGreater(min(seen.values()), 300)

    def test_spoilt(self):
        chance = random.Random(113)
        seen = {True: 0, False: 0}
        for calendar in some_calendars(300):
            loads, plan, lit = most_in(calendar)
            end = calendar[0] - 1
            for _ in range(3):
                others = [spoilt_lit(chance, calendar, lit)]
                plans = [spoilt_plan(chance, plan)] if plan else []
                for tried in [(plan, other) for other in others] + [(other, lit) for other in plans]:
                    right = clean_by_words(calendar, tried[0]) and are_lit_by_words(calendar, tried[1])
                    right = right and stood_there(calendar, tried[0], end, calendar[1]) == loads
                    right = right and sum_by_words(calendar, tried[1]) == loads
                    self.check(right, (loads,) + tried, calendar)
                    self.check(False, (loads + 1,) + tried, calendar)
                    seen[right] += 1
        self.assertGreater(min(seen.values()), 20)


class FirstAndLast(unittest.TestCase):
    def check(self, first, last, calendar):
        for told, pairs in ((first_lit(calendar), first), (last_lit(calendar), last)):
            self.assertIs(type(told), list)
            self.assertTrue(only_whole(told))
            self.assertTrue(all(type(pair) is tuple for pair in told))
            self.assertEqual(told, pairs, calendar)

    def test_told(self):
        self.check(BEGIN + [(1, 1), (1, 2)], BEGIN + [(1, 1), (1, 2), (1, 3)], CALENDAR)
        self.check(BEGIN + [(1, 2), (1, 3), (2, 3)], BEGIN + [(1, 1), (1, 2), (1, 3), (2, 2), (2, 3)], ROW)
        self.check([(0, 0)], [(0, 0)], (2, 0, (), (), (None, None)))
        self.check([(0, 0)], [(0, 0), (1, 0)], (3, 0, ((0, 2, 1),), ((5,),), (None, (), None)))

    def test_what_is_in_every_such_list_and_what_in_some_one(self):
        unlike = 0
        for calendar in tiny_calendars(400):
            lists = list(all_lit(calendar))
            most = min(sum_by_words(calendar, lit) for lit in lists)
            best = [set(lit) for lit in lists if sum_by_words(calendar, lit) == most]
            first, last = sorted(set.intersection(*best)), sorted(set.union(*best))
            self.check(first, last, calendar)
            self.assertEqual(most_in(calendar)[0], most)
            unlike += first != last
        self.assertGreater(unlike, 100)

    def test_both_have_the_sum_of_the_most(self):
        for calendar in list(some_calendars(200)) + list(great_calendars(80)):
            most, plan, lit = most_in(calendar)
            first, last = first_lit(calendar), last_lit(calendar)
            for tried in (first, last):
                self.assertTrue(are_lit_by_words(calendar, tried))
                self.assertEqual(sum_by_words(calendar, tried), most)
            self.assertLessEqual(set(first), set(lit))
            self.assertLessEqual(set(lit), set(last))

    def test_turned_about_what_is_not_lit_last_is_lit_first(self):
        for calendar in list(some_calendars(150)) + list(great_calendars(40)):
            many, hours = calendar[0], calendar[1]
            pairs = [(place, hour) for place in range(many) for hour in range(hours + 1)]
            last, turned = last_lit(calendar), first_lit(turned_calendar(calendar))
            self.assertEqual([pair for pair in pairs if pair not in last],
                             sorted((many - 1 - place, hours - hour) for place, hour in turned))

    def test_the_told_lists_are_the_askers_own(self):
        first_lit(CALENDAR).clear()
        last_lit(CALENDAR).clear()
        narrow_ways(CALENDAR).clear()
        self.check(BEGIN + [(1, 1), (1, 2)], BEGIN + [(1, 1), (1, 2), (1, 3)], CALENDAR)
        self.assertEqual(narrow_ways(CALENDAR), [(1, 1), (1, 2)])


class Narrow(unittest.TestCase):
    def test_told(self):
        self.assertEqual(narrow_ways(CALENDAR), [(1, 1), (1, 2)])
        # each of the three is full, but one room more in one of them lets no more come
        self.assertEqual(narrow_ways(ROW), [])
        wider = with_hour_room(with_hour_room(ROW, 0, 0, 3), 2, 2, 3)
        self.assertEqual(narrow_ways(wider), [(1, 1)])
        self.assertEqual(narrow_ways((2, 2, (), (), (None, None))), [])
        # a way without room is narrow too where more would come by it; in hour 2 it comes out too late
        self.assertEqual(narrow_ways((2, 2, ((0, 1, 1),), ((0, 4, 9),), (None, None))), [(0, 0), (0, 1)])
        self.assertEqual(narrow_ways((2, 0, ((0, 1, 1),), ((4,),), (None, None))), [])
        self.assertEqual(narrow_ways((2, 5, ((0, 1, 6),), ((4,) * 6,), (None, None))), [])
        self.assertEqual(narrow_ways((2, 5, ((1, 0, 1), (0, 1, 5)), ((4,) * 6,) * 2, (None, None))), [(1, 0)])

    def test_just_those_of_which_one_room_more_lets_more_come(self):
        seen = {True: 0, False: 0}
        for calendar in list(tiny_calendars(120)) + list(some_calendars(100)) + list(great_calendars(12)):
            most = most_in(calendar)[0]
            narrow = narrow_ways(calendar)
            self.assertIs(type(narrow), list)
            self.assertTrue(only_whole(narrow))
            found = []
            for way, (start, to, hours) in enumerate(calendar[2]):
                for hour in range(calendar[1] - hours + 1):
                    room = calendar[3][way][hour]
                    more = most_in(with_hour_room(calendar, way, hour, room + 1))[0] - most
                    if more:
                        found.append((way, hour))
                        # full, however the most is brought: each room less is a load less
                        self.assertEqual(more, 1)
                        for less in {0, max(0, room - 1)}:
                            self.assertEqual(most_in(with_hour_room(calendar, way, hour, less))[0], most - room + less)
                    seen[more > 0] += 1
            self.assertEqual(narrow, found, calendar)
        self.assertGreater(min(seen.values()), 400)


if __name__ == "__main__":
    unittest.main()
