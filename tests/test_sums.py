import random
import unittest

from hourhaul.always import always_plan
from hourhaul.carried import plan_clean
from hourhaul.closed import most_by
from hourhaul.errors import BadHour, HaulError, NoWalk
from hourhaul.soonest import soonest_hour
from hourhaul.sums import coming_hours, coming_plan, coming_right, least_coming
from samples import (
    BACK, G, GREAT, HUGE, NEVER, ODD, PLAIN, grown_net, most_by_hours, only_whole, small_nets, some_nets, spoilt_plan,
    stood,
)

MANY = 10 ** 18


def least_by_words(net, loads, most=most_by):
    """8.4, hour by hour."""
    total = hour = 0
    while most(net, hour) < loads:
        total += loads - most(net, hour)
        hour += 1
    return total


def hours_by_words(net, plan):
    end = net[0] - 1
    return sum(hour + net[1][way][3] for hour, way, loads in plan for _ in range(loads) if net[1][way][1] == end)


def loads_to(most, *loads):
    return sorted({some for some in loads if 1 <= some <= most})


class Least(unittest.TestCase):
    def check(self, net, loads, least):
        told = least_coming(net, loads)
        self.assertEqual(told, least, (net, loads))
        self.assertTrue(told is None or only_whole(told))

    def test_told(self):
        # four come in hour 3 and each hour thereafter, three more from hour 7 on
        for loads, least in (
            (1, 3), (3, 9), (4, 12), (5, 16), (8, 28), (9, 33), (16, 72), (17, 79), (23, 121), (24, 129),
        ):
            self.check(PLAIN, loads, least)

    def test_few_loads(self):
        for net in list(small_nets(100)) + list(some_nets(100)) + [PLAIN, BACK, ODD]:
            for loads in (1, 2, 3, 5, 8, 13, 40):
                if most_by(net, 100) > 0:
                    self.check(net, loads, least_by_words(net, loads))
        for net in list(small_nets(40)):
            for loads in (1, 2, 4, 9):
                if most_by(net, 100) > 0:
                    self.check(net, loads, least_by_words(net, loads, most_by_hours))

    def test_great_rooms(self):
        for loads in (1, 2, G, G + 1, 2 * G, 3 * G - 1, 10 * G, 40 * G + 3):
            self.check(GREAT, loads, least_by_words(GREAT, loads))

    def test_as_many_as_can_be(self):
        # one an hour, from hour 1 on
        self.check((2, ((0, 1, 1, 1),)), MANY, MANY * (MANY + 1) // 2)
        # 10 ** 9 an hour, in 10 ** 9 hours from hour 10 ** 6 on
        self.check((2, ((0, 1, G, 10 ** 6),)), MANY, MANY * 10 ** 6 + G * (G * (G - 1) // 2))
        self.check((2, ((0, 1, G, 10 ** 6),)), G, G * 10 ** 6)
        self.check((2, ((0, 1, G, 10 ** 6),)), G + 1, G * 10 ** 6 + 10 ** 6 + 1)

    def test_each_load_more_comes_in_its_soonest_hour(self):
        for net in list(small_nets(100)) + [PLAIN, BACK, GREAT, ODD]:
            for loads in (1, 7, 100, 12345, 10 ** 9, 10 ** 15 + 7, MANY - 1):
                told = soonest_hour(net, loads + 1)
                if told[0] == "by":
                    self.check(net, loads + 1, least_coming(net, loads) + told[1])

    def test_none(self):
        for net in NEVER:
            for loads in (1, 2, MANY):
                self.check(net, loads, None)


class Hours(unittest.TestCase):
    def test_added_up_load_by_load(self):
        for net, plan, hours in (
            (PLAIN, [], 0), (PLAIN, [(0, 0, 4), (2, 1, 4)], 12), (PLAIN, [(0, 2, 3)], 21), ((2, ()), [], 0),
            (PLAIN, [(0, 0, 4), (1, 0, 2), (1, 2, 3), (2, 1, 4), (5, 1, 2)], 12 + 12 + 24),
            ((2, ((0, 1, G, 10 ** 6),)), [(5, 0, G)], G * (10 ** 6 + 5)),
        ):
            kept = list(plan)
            self.assertEqual(coming_hours(net, plan), hours)
            self.assertTrue(only_whole(coming_hours(net, plan)))
            self.assertEqual(plan, kept)

    def test_of_always_best_plans(self):
        for net in small_nets(80):
            for last in (0, 4, 9, 12):
                plan = always_plan(net, last)
                self.assertEqual(coming_hours(net, plan), hours_by_words(net, plan))


class Told(unittest.TestCase):
    def check(self, net, loads):
        told = coming_plan(net, loads)
        self.assertIs(type(told), tuple)
        self.assertEqual(len(told), 2)
        self.assertTrue(only_whole(told))
        last, plan = told
        self.assertIs(type(plan), list)
        self.assertEqual(last, soonest_hour(net, loads)[1])
        self.assertIs(plan_clean(net, last, plan), True, (net, loads, told))
        self.assertEqual(stood(net, plan, net[0] - 1, last), loads)
        self.assertEqual(coming_hours(net, plan), least_by_words(net, loads))
        self.assertIs(coming_right(net, loads, told), True)
        self.assertEqual(coming_plan(net, loads), told)
        return told

    def test_told(self):
        self.assertEqual(self.check(PLAIN, 1), (3, [(0, 0, 1), (2, 1, 1)]))
        self.assertEqual(self.check(PLAIN, 4), (3, [(0, 0, 4), (2, 1, 4)]))
        self.assertEqual(self.check(PLAIN, 5), (4, [(0, 0, 4), (1, 0, 1), (2, 1, 4), (3, 1, 1)]))
        for loads in range(1, most_by(BACK, 12) + 1):
            self.check(BACK, loads)
        for loads in range(1, most_by(ODD, 12) + 1):
            self.check(ODD, loads)

    def test_each_number_of_loads(self):
        for net in small_nets(80):
            most = most_by(net, 12)
            for loads in loads_to(most, 1, 2, 3, most // 3, most // 2, most - 1, most):
                self.check(net, loads)

    def test_great_rooms(self):
        for loads in (1, 2, G, G + 1, 2 * G, 5 * G + 1, most_by(GREAT, 12)):
            self.check(GREAT, loads)
        for net in some_nets(60):
            grown = grown_net(net, 1)
            most = most_by(grown, 12)
            for loads in loads_to(most, 1, most // 2, most - 1, most):
                self.check(grown, loads)

    def test_nothing_can_ever_be_brought(self):
        for net in NEVER:
            for loads in (1, MANY):
                with self.assertRaises(NoWalk) as caught:
                    coming_plan(net, loads)
                self.assertIsInstance(caught.exception, HaulError)

    def test_an_hour_above_twelve(self):
        net = (2, ((0, 1, 5, 12),))
        self.assertEqual(self.check(net, 5), (12, [(0, 0, 5)]))
        for net, loads in (
            (net, 6), (net, MANY), ((2, ((0, 1, 5, 13),)), 1), (PLAIN, most_by(PLAIN, 12) + 1), (PLAIN, MANY),
            ((2, ((0, 1, G, 10 ** 6),)), 1),
        ):
            with self.assertRaises(BadHour) as caught:
                coming_plan(net, loads)
            self.assertIsInstance(caught.exception, HaulError)
        self.assertEqual(self.check(PLAIN, most_by(PLAIN, 12))[0], 12)
        self.assertEqual(self.check(PLAIN, most_by(PLAIN, 11) + 1)[0], 12)

    def test_what_is_told_is_the_askers_own(self):
        coming_plan(PLAIN, 4)[1].clear()
        self.assertEqual(coming_plan(PLAIN, 4), (3, [(0, 0, 4), (2, 1, 4)]))


class Judged(unittest.TestCase):
    # five loads: four by hour 3, one by hour 4
    PLAN = [(0, 0, 4), (1, 0, 1), (2, 1, 4), (3, 1, 1)]

    def check(self, right, last, plan, loads=5, net=PLAIN):
        kept = list(plan)
        self.assertIs(coming_right(net, loads, (last, plan)), right, (net, loads, last, plan))
        self.assertEqual(plan, kept)

    def test_other_right_ones(self):
        self.check(True, 4, self.PLAN)
        # one is sent sooner than need be, and waits
        self.check(True, 4, [(0, 0, 5), (2, 1, 4), (3, 1, 1)])
        net = (3, ((0, 1, 4, 1), (1, 2, 2, 1), (1, 2, 3, 1)))
        for one, other in ((2, 2), (1, 3)):
            self.check(True, 2, [(0, 0, 4), (1, 1, one), (1, 2, other)], 4, net)

    def test_a_load_more_or_less(self):
        for loads in (4, 6, 1, 8, MANY):
            self.check(False, 4, self.PLAN, loads)
        self.check(False, 4, [(0, 0, 4), (2, 1, 4)])
        self.check(False, 4, [(0, 0, 4), (1, 0, 2), (2, 1, 4), (3, 1, 2)])
        self.check(False, 4, [])
        # four loads that all come in hour 4 have just as many hours together as the five
        self.check(False, 4, [(1, 0, 4), (3, 1, 4)])

    def test_an_hour_more_or_less(self):
        for last in (3, 5, 0, -1, 12, 13, HUGE, -HUGE):
            self.check(False, last, self.PLAN)
        self.check(False, 5, [(1, 0, 4), (2, 0, 1), (3, 1, 4), (4, 1, 1)])

    def test_later_than_need_be(self):
        self.check(False, 4, [(0, 0, 1), (1, 0, 4), (2, 1, 1), (3, 1, 4)])
        self.check(False, 4, [(0, 0, 3), (1, 0, 2), (2, 1, 3), (3, 1, 2)])
        self.check(False, 4, [(0, 0, 5), (2, 1, 3), (3, 1, 2)])

    def test_not_clean_or_no_plan(self):
        for plan in (
            self.PLAN[::-1], self.PLAN + self.PLAN[-1:], [(0, 0, 5), (1, 0, 1), (2, 1, 4), (3, 1, 1)],
            [(0, 0, 5), (2, 1, 5)], [(0, 0, 4), (2, 1, 4), (3, 1, 1)], [(0, 0, HUGE), (2, 1, 4), (3, 1, 1)],
            [(0, 0, 4), (1, 0, 1), (2, 1, 4), (3, -2, 1)], [(-1, 0, 1), (0, 0, 4), (2, 1, 4), (3, 1, 1)],
            self.PLAN + [(4, 0, 0)], self.PLAN + [(HUGE, 0, 1)],
        ):
            self.check(False, 4, plan)
        # two that leave the end in hour 3 make their hours fewer or more: a clean plan goes no such way
        net = (2, ((0, 1, 5, 1), (1, 0, 5, 1)))
        self.check(True, 1, [(0, 0, 3)], 3, net)
        self.check(False, 2, [(0, 0, 5), (1, 0, 2), (1, 1, 1)], 6, net)

    def test_an_hour_above_twelve(self):
        net = (2, ((0, 1, 5, 12),))
        self.check(True, 12, [(0, 0, 5)], 5, net)
        self.check(False, 13, [(0, 0, 5), (1, 0, 1)], 6, net)
        self.check(False, 13, [(0, 0, 1)], 1, (2, ((0, 1, 5, 13),)))

    def test_nothing_can_ever_be_brought(self):
        for net in NEVER:
            for last in (0, 1, 12, 13):
                self.check(False, last, [], 1, net)

    def test_told_ones_spoilt(self):
        chance = random.Random(84)
        seen = {True: 0, False: 0}
        for net in small_nets(80):
            most = most_by(net, 12)
            for loads in loads_to(most, 1, most // 2, most):
                last, plan = coming_plan(net, loads)
                self.check(False, last + 1, plan, loads, net)
                self.check(False, last - 1, plan, loads, net)
                self.check(False, last, plan, loads + 1, net)
                for _ in range(5):
                    tried = spoilt_plan(chance, plan)
                    right = plan_clean(net, last, tried) and stood(net, tried, net[0] - 1, last) == loads
                    right = right and hours_by_words(net, tried) == least_by_words(net, loads)
                    self.check(right, last, tried, loads, net)
                    seen[right] += 1
        self.assertGreater(seen[False], 200)


if __name__ == "__main__":
    unittest.main()
