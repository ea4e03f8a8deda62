import random
import unittest
from itertools import product

from hourhaul.closed import closed_hours, closed_sum, most_by
from hourhaul.starts import (
    bring_all, bring_right, closed_from, from_sum, most_from, soonest_all, stores_right,
)
from samples import (
    BACK, FAR, G, GREAT, HUGE, NEVER, ODD, PLAIN, fits_by_words, grown_net, hours_about, most_by_hours, only_whole,
    small_nets, some_nets, spoilt_plan, stood, stores_by_trying, tiny_nets,
)

STORE = 10 ** 12
# Place 2 leads to 1, and 1 to the end alone; the begin leads to both; nothing leads on from place 3.
FORKED = (5, ((0, 1, 2, 1), (0, 2, 3, 1), (2, 1, 1, 2), (1, 4, 4, 1), (0, 3, 5, 1), (1, 0, 1, 1)))


def all_starts(net):
    """All sets of places without the end."""
    for taken in product((False, True), repeat=net[0] - 1):
        yield tuple(place for place, lies in enumerate(taken) if lies)


def from_by_hours(net, starts, last):
    """The most from starts: each is come to from a new begin, an hour ahead, with as much as ever."""
    many, ways = net
    moved = [(start + 1, to + 1, room, hours) for start, to, room, hours in ways]
    return most_by_hours((many + 1, tuple(moved + [(0, place + 1, 10 ** 20, 1) for place in starts])), last + 1)


def sum_by_words(net, starts, last, closed):
    """6.2 and 12.2 word by word."""
    if len(closed) != net[0] or closed[-1] != last + 1 or any(closed[place] != 0 for place in starts):
        return None
    if any(not 0 <= hour <= last + 1 for hour in closed):
        return None
    return sum(room * max(0, closed[to] - closed[start] - hours) for start, to, room, hours in net[1])


def brings_by_words(net, stores, last, plan):
    """12.1 word by word, hour by hour."""
    if not fits_by_words(net, last, plan):
        return False
    for place in range(net[0]):
        if any(stores[place] + stood(net, plan, place, hour) < 0 for hour in range(last + 1)):
            return False
    return stood(net, plan, net[0] - 1, last) == sum(stores)


def some_stores(chance, net, most):
    return tuple(chance.choice((0, 0, 1, most, chance.randint(0, most))) for _ in range(net[0] - 1)) + (0,)


class From(unittest.TestCase):
    def check(self, net, starts, last, most):
        told, closed = most_from(net, starts, last), closed_from(net, starts, last)
        self.assertEqual(told, most, (net, starts, last))
        self.assertIs(type(closed), list)
        self.assertTrue(only_whole([told, closed]))
        self.assertEqual(sum_by_words(net, starts, last, closed), most, (net, starts, last, closed))
        self.assertEqual(from_sum(net, starts, last, closed), most)
        self.assertEqual(closed_from(net, starts, last), closed)

    def test_told(self):
        for starts, most in (
            ((), 0), ((0,), 4), ((1,), 12), ((2,), 1), ((3,), 0), ((0, 1), 12), ((0, 2), 5), ((0, 3), 4), ((1, 2), 12),
            ((1, 2, 3), 12), ((2, 3), 1), ((0, 2, 3), 5), ((0, 1, 2, 3), 12),
        ):
            self.check(FORKED, starts, 3, most)
        for last, most in ((0, 0), (1, 0), (2, 0), (3, 1), (4, 2), (9, 7), (FAR, FAR - 2)):
            self.check(FORKED, (2,), last, most)
        # two an hour from hour 2 on by ways 0 and 3, one more from hour 4 on by ways 1, 2 and 3
        for last, most in ((0, 0), (1, 0), (2, 2), (3, 4), (4, 7), (5, 10)):
            self.check(FORKED, (0,), last, most)
        for last, most in ((2, 2), (3, 5), (4, 8), (5, 11), (FAR, 3 * (FAR - 1) - 1)):
            self.check(FORKED, (0, 2), last, most)

    def test_no_starts_and_starts_that_nothing_leads_on_from(self):
        for net in (PLAIN, BACK, GREAT, ODD, FORKED) + NEVER:
            for last in (0, 1, 7, FAR - 1, FAR):
                self.check(net, (), last, 0)
        for last in (0, 1, 7, FAR):
            self.check(FORKED, (3,), last, 0)
            self.check((6, ()), (0, 1, 2, 3, 4), last, 0)
            self.check(NEVER[4], (0, 1), last, 0)

    def test_the_begin_alone(self):
        for net in list(small_nets(100)) + list(some_nets(100)) + [PLAIN, BACK, GREAT, ODD] + list(NEVER):
            for last in (0, 3, 8, 1000, FAR):
                self.check(net, (0,), last, most_by(net, last))
                closed = closed_hours(net, last)
                self.assertEqual(from_sum(net, (0,), last, closed), closed_sum(net, last, closed))
                self.assertEqual(closed_sum(net, last, closed_from(net, (0,), last)), most_by(net, last))

    def test_all_sets_of_starts_hour_by_hour(self):
        for net in list(small_nets(25)) + list(some_nets(25)) + [FORKED]:
            for starts in all_starts(net):
                for last in (0, 2, 5, 9):
                    self.check(net, starts, last, from_by_hours(net, starts, last))

    def test_the_least_of_all_sums(self):
        for net in tiny_nets(60):
            for starts in all_starts(net):
                for last in (0, 1, 3, 4):
                    sums = [sum_by_words(net, starts, last, list(closed))
                            for closed in product(range(last + 2), repeat=net[0])]
                    self.check(net, starts, last, min(total for total in sums if total is not None))

    def test_far_hours_and_great_rooms(self):
        for net in list(some_nets(40)) + [GREAT, FORKED]:
            grown = grown_net(net, 10 ** 5)
            for starts in ((), (0,), tuple(range(net[0] - 1)), tuple(range(1, net[0] - 1))):
                for last in hours_about([10 ** 5, 3 * 10 ** 5]):
                    self.check(grown, starts, last, from_sum(grown, starts, last, closed_from(grown, starts, last)))
                    self.check(net, starts, last, most_from(net, starts, last))
        self.check((2, ((0, 1, G, 10 ** 6),)), (0,), FAR, G * (FAR - 10 ** 6 + 1))

    def test_more_starts_bring_no_less(self):
        for net in some_nets(60):
            for last in (4, 9, FAR):
                for starts in all_starts(net):
                    most = most_from(net, starts, last)
                    for place in range(net[0] - 1):
                        more = tuple(sorted(set(starts) | {place}))
                        self.assertGreaterEqual(most_from(net, more, last), most)

    def test_the_told_list_is_the_askers_own(self):
        kept = closed_from(FORKED, (0, 2), 5)
        closed_from(FORKED, (0, 2), 5).clear()
        self.assertEqual(closed_from(FORKED, (0, 2), 5), kept)


class Sums(unittest.TestCase):
    def check(self, total, starts, closed, last=5, net=FORKED):
        kept = list(closed)
        told = from_sum(net, starts, last, closed)
        self.assertEqual(told, total, (starts, closed))
        self.assertTrue(told is None or only_whole(told))
        self.assertEqual(closed, kept)
        self.assertEqual(sum_by_words(net, starts, last, closed), total)

    def test_nought_at_each_start(self):
        for closed in ([0, 0, 0, 0, 6], [0, 3, 0, 6, 6]):
            self.check(sum_by_words(FORKED, (0, 2), 5, closed), (0, 2), closed)
            self.assertIsNotNone(from_sum(FORKED, (0, 2), 5, closed))
        for closed in ([1, 0, 0, 0, 6], [0, 0, 1, 0, 6], [0, 0, -1, 0, 6], [6, 0, 0, 0, 6], [0, 0, 6, 0, 6]):
            self.check(None, (0, 2), closed)
        self.check(20, (1,), [0, 0, 0, 0, 6])
        self.check(None, (1,), [0, 1, 0, 0, 6])

    def test_numbers_at_other_places(self):
        # at the begin where it is no start, too
        for starts in ((), (2,), (1, 3)):
            for hour in (0, 1, 5, 6):
                closed = [hour, 0, 0, 0, 6]
                self.check(sum_by_words(FORKED, starts, 5, closed), starts, closed)
                self.assertIsNotNone(from_sum(FORKED, starts, 5, closed))
            for hour in (-1, 7, HUGE, -HUGE):
                self.check(None, starts, [hour, 0, 0, 0, 6])
        for hour in (-1, 7, HUGE, -HUGE):
            self.check(None, (0,), [0, hour, 0, 0, 6])
            self.check(None, (0,), [0, 0, 0, hour, 6])
            self.check(None, (), [6, 6, hour, 6, 6])

    def test_the_end(self):
        for hour in (5, 7, 0, -6, HUGE):
            self.check(None, (0,), [0, 0, 0, 0, hour])
            self.check(None, (), [0, 0, 0, 0, hour])

    def test_lists_of_another_length(self):
        for closed in ([], [0], [6], [0, 6], [0, 0, 0, 6], [0, 0, 0, 0, 6, 6], [0, 0, 0, 0, 0, 6]):
            for starts in ((), (0,), (0, 3), (3,), (0, 1, 2, 3)):
                self.check(None, starts, closed)

    def test_sums(self):
        self.check(0, (), [6, 6, 6, 6, 6])
        # way 1-4 is open in hours 3 and 4, 0-1 in hours 0 and 1
        self.check(4 * 2 + 2 * 2 + 1 * 1, (0, 2), [0, 3, 0, 0, 6])
        # with the begin closed from hour 6 on, nothing goes over by its ways, but by the one to it
        self.check(1 * 1 + 4 * 2 + 1 * 2, (2,), [6, 3, 0, 6, 6])
        self.check(0, (0,), [0, 0, 0, 0, 1], 0)
        for last in (FAR - 1, FAR):
            self.check(4 * last, (0, 1), [0, 0, 0, 0, last + 1], last)

    def test_with_the_begin_alone_they_are_those_of_the_net(self):
        chance = random.Random(121)
        seen = {True: 0, False: 0}
        for net in some_nets(200):
            for last in (0, 3, 9):
                closed = [0] + [chance.randint(0, last + 1) for _ in range(net[0] - 2)] + [last + 1]
                closed[chance.randrange(net[0])] += chance.choice((0, 0, 1, -1, HUGE))
                told = from_sum(net, (0,), last, closed)
                self.assertEqual(told, closed_sum(net, last, closed))
                seen[told is None] += 1
        self.assertGreater(min(seen.values()), 100)

    def test_drawn(self):
        chance = random.Random(122)
        for net in some_nets(200):
            for starts in chance.sample(list(all_starts(net)), 2):
                for last in (0, 5, FAR):
                    closed = [0 if place in starts else chance.randint(0, last + 1) for place in range(net[0] - 1)]
                    closed.append(last + 1)
                    self.check(sum_by_words(net, starts, last, closed), starts, closed, last, net)
                    closed[chance.randrange(net[0])] += chance.choice((1, -1))
                    self.check(sum_by_words(net, starts, last, closed), starts, closed, last, net)


class StoresRight(unittest.TestCase):
    # 0 -> 1 -> 2, the begin and place 1 with a store; way 2 leads back to the begin, way 3 away from the end
    NET = (3, ((0, 1, 3, 1), (1, 2, 4, 1), (1, 0, 2, 1), (2, 1, 2, 1)))
    PLAN = [(0, 0, 3), (0, 1, 2), (1, 1, 3)]

    def check(self, right, plan, stores=(3, 2, 0), last=2, net=NET):
        kept = list(plan)
        self.assertIs(stores_right(net, stores, last, plan), right, (net, stores, last, plan))
        self.assertEqual(plan, kept)
        self.assertEqual(brings_by_words(net, stores, last, plan), right)

    def test_right(self):
        self.check(True, self.PLAN)
        self.check(True, self.PLAN, last=12)
        self.check(True, [(0, 0, 3), (1, 1, 4), (2, 1, 1)], last=3)
        self.check(True, [(0, 0, 1), (0, 1, 2), (1, 0, 2), (1, 1, 1), (2, 1, 2)], last=3)
        # none at all
        self.check(True, [], (0, 0, 0))
        self.check(True, [], (0, 0, 0), 0)
        self.check(True, [], (0, 0), 0, (2, ()))

    def test_too_late_by_an_hour(self):
        self.check(False, self.PLAN, last=1)
        self.check(False, self.PLAN, last=0)
        self.check(True, [(1, 0, 3), (1, 1, 2), (2, 1, 3)], last=3)
        self.check(False, [(1, 0, 3), (1, 1, 2), (2, 1, 3)], last=2)

    def test_one_load_left_behind(self):
        for plan in (
            [(0, 0, 2), (0, 1, 2), (1, 1, 2)], [(0, 0, 3), (0, 1, 1), (1, 1, 3)], [(0, 0, 3), (0, 1, 2), (1, 1, 2)], [],
        ):
            self.check(False, plan)
        self.check(False, self.PLAN, (4, 2, 0))
        self.check(False, self.PLAN, (3, 3, 0))

    def test_more_than_the_store_leaves_the_begin(self):
        self.check(False, self.PLAN, (2, 2, 0))
        self.check(False, self.PLAN, (2, 3, 0))
        self.check(False, self.PLAN, (0, 5, 0))
        self.check(False, self.PLAN, (5, 0, 0))
        # all five come, but one leaves the begin ahead of its coming back to it
        self.check(True, [(0, 2, 1), (1, 0, 1), (2, 1, 1)], (0, 1, 0), 3)
        self.check(False, [(0, 0, 1), (0, 2, 1), (1, 1, 1)], (0, 1, 0), 3)
        self.check(False, [(0, 0, 1), (1, 1, 1)], (0, 1, 0), 3)

    def test_what_comes_through_a_place_with_a_store(self):
        self.check(True, [(0, 0, 3), (1, 1, 4), (2, 1, 1)], last=3)
        self.check(False, [(0, 0, 3), (0, 1, 3), (1, 1, 2)])
        self.check(False, [(0, 0, 3), (0, 1, 4), (1, 1, 1)])
        self.check(True, [(0, 1, 2), (1, 0, 3), (2, 1, 3)], last=3)
        self.check(False, [(0, 1, 2), (1, 0, 3), (1, 1, 3)], last=3)

    def test_loads_that_stand_at_the_end_or_leave_it_again(self):
        self.check(False, self.PLAN + [(2, 3, 1)], last=4)
        self.check(True, self.PLAN + [(2, 3, 2), (3, 1, 2)], last=4)
        self.check(False, [(0, 3, 1), (1, 1, 1)], (0, 0, 0), 4)
        self.check(False, [(0, 1, 2), (0, 3, 1), (1, 1, 1)], (0, 2, 0), 4)

    def test_rooms(self):
        self.check(False, [(0, 0, 4), (1, 1, 4)], (4, 0, 0))
        self.check(True, [(0, 0, 3), (1, 0, 1), (1, 1, 3), (2, 1, 1)], (4, 0, 0), 3)
        self.check(False, [(0, 1, 5)], (0, 5, 0))

    def test_what_is_no_plan(self):
        for plan in (
            self.PLAN[::-1], self.PLAN + self.PLAN[-1:], self.PLAN[:1] + self.PLAN, [(0, 1, 2), (0, 0, 3), (1, 1, 3)],
            self.PLAN + [(1, 2, 0)], self.PLAN + [(1, 2, -1)], [(-1, 0, 3), (0, 1, 4), (1, 1, 1)],
            [(-1, 1, 2), (0, 0, 3), (1, 1, 3)], self.PLAN + [(1, 4, 1)], self.PLAN + [(1, 5, 1)],
            self.PLAN + [(1, HUGE, 1)], [(0, -4, 3)] + self.PLAN[1:], [(0, -1, 1)] + self.PLAN,
            self.PLAN + [(HUGE, 0, 1)], [(-HUGE, 0, 1)] + self.PLAN, self.PLAN + [(1, 2, HUGE)],
            [(0, 0, -HUGE)] + self.PLAN[1:],
        ):
            self.check(False, plan)
            self.check(False, plan, last=4)

    def test_ways_that_are_none_bring_no_stores(self):
        # numbers just behind the last way, in every hour about the first, with stores and without
        for stores in ((0, 0, 0), (1, 0, 0), (0, 1, 0), (1, 1, 0)):
            for way in (4, 5, 6, 7):
                for hour in (-2, -1, 0, 1):
                    self.check(False, [(hour, way, 1)], stores, 4)
                    self.check(False, [(hour, way, 1), (1, 1, 1)], stores, 4)
                    self.check(False, sorted([(hour, way, 1), (2, 1, 1)]), stores, 4)

    def test_great_stores(self):
        net = (2, ((0, 1, G, 1),) * 12)
        plan = [(hour, way, G) for hour in range(12) for way in range(12)]
        self.check(True, plan, (144 * G, 0), 12, net)
        self.check(False, plan, (144 * G + 1, 0), 12, net)
        self.check(False, plan, (144 * G - 1, 0), 12, net)
        self.check(False, plan, (STORE, 0), 12, net)

    def test_spoilt(self):
        chance = random.Random(123)
        seen = {True: 0, False: 0}
        for net in list(some_nets(250)) + list(small_nets(100)):
            stores = some_stores(chance, net, 4)
            for last in (6, 9):
                told = bring_all(net, stores, last)
                if told[0] == "plan" and told[1]:
                    for tried in [told[1]] + [spoilt_plan(chance, told[1]) for _ in range(4)]:
                        right = brings_by_words(net, stores, last, tried)
                        self.check(right, tried, stores, last, net)
                        seen[right] += 1
        self.assertGreater(min(seen.values()), 100)


class All(unittest.TestCase):
    def check(self, net, stores, last):
        told = bring_all(net, stores, last)
        self.assertIs(type(told), tuple)
        self.assertTrue(only_whole(told[1:]))
        self.assertIs(bring_right(net, stores, last, told), True, (net, stores, last, told))
        self.assertEqual(bring_all(net, stores, last), told)
        if told[0] == "plan":
            self.assertEqual(len(told), 2)
            self.assertIs(type(told[1]), list)
            self.assertTrue(all(type(triple) is tuple for triple in told[1]))
            self.assertTrue(brings_by_words(net, stores, last, told[1]), (net, stores, last, told))
            return True
        word, starts, closed = told
        self.assertEqual(word, "starts")
        self.assertIs(type(starts), tuple)
        self.assertIs(type(closed), list)
        self.assertIn(starts, list(all_starts(net)))
        self.assertLess(sum_by_words(net, starts, last, closed), sum(stores[place] for place in starts))
        return False

    def test_none_at_all(self):
        for net in (PLAIN, BACK, GREAT, ODD, FORKED) + NEVER:
            for last in (0, 1, 12):
                self.assertTrue(self.check(net, (0,) * net[0], last))
                self.assertEqual(bring_all(net, (0,) * net[0], last), ("plan", []))

    def test_by_just_the_hour_and_not_by_the_hour_ahead(self):
        # the most by 3, 4 .. : 4, 8, 12, 16, 23, 30
        for store, last in ((1, 3), (4, 3), (5, 4), (8, 4), (16, 6), (17, 7), (23, 7), (24, 8), (30, 8)):
            self.assertTrue(self.check(PLAIN, (store, 0, 0), last))
            self.assertFalse(self.check(PLAIN, (store, 0, 0), last - 1))
        # what stands at place 1 goes ahead of what comes through it
        for stores, last in (((0, 4, 0), 1), ((0, 5, 0), 2), ((4, 8, 0), 3), ((4, 9, 0), 4), ((5, 8, 0), 4)):
            self.assertTrue(self.check(PLAIN, stores, last))
            self.assertFalse(self.check(PLAIN, stores, last - 1))

    def test_every_place_but_the_end(self):
        for last, right in ((1, False), (3, False), (4, True), (12, True)):
            self.assertEqual(self.check(FORKED, (4, 2, 2, 0, 0), last), right)
        for last in (0, 5, 12):
            self.assertFalse(self.check(FORKED, (4, 2, 2, 1, 0), last))
        # a way to the begin is gone where the begin alone leads on
        net = (3, ((1, 0, 2, 1), (0, 2, 3, 2)))
        for stores, last in (((0, 2, 0), 3), ((0, 3, 0), 4), ((3, 2, 0), 3), ((4, 2, 0), 3), ((5, 2, 0), 4)):
            self.assertTrue(self.check(net, stores, last))
            self.assertFalse(self.check(net, stores, last - 1))

    def test_by_trying(self):
        chance = random.Random(124)
        seen = {True: 0, False: 0}
        for net in tiny_nets(150):
            for last in (1, 3, 4):
                stores = some_stores(chance, net, 2)
                right = stores_by_trying(net, stores, last) == sum(stores)
                self.assertEqual(self.check(net, stores, last), right, (net, stores, last))
                seen[right] += sum(stores) > 0
        self.assertGreater(min(seen.values()), 60)

    def test_just_where_no_set_of_starts_has_too_much(self):
        chance = random.Random(125)
        seen = {True: 0, False: 0}
        for net in list(some_nets(150)) + list(small_nets(100)) + [FORKED, BACK]:
            for last in (0, 4, 8, 12):
                stores = some_stores(chance, net, last)
                right = all(
                    sum(stores[place] for place in starts) <= most_from(net, starts, last) for starts in all_starts(net)
                )
                self.assertEqual(self.check(net, stores, last), right, (net, stores, last))
                seen[right] += sum(stores) > 0
        self.assertGreater(min(seen.values()), 100)

    def test_great_stores(self):
        for grown in [grown_net(net, 1) for net in some_nets(60)] + [GREAT]:
            most = most_from(grown, (0,), 12)
            self.assertFalse(self.check(grown, (STORE,) * (grown[0] - 1) + (0,), 12))
            self.assertTrue(self.check(grown, (most,) + (0,) * (grown[0] - 1), 12))
            self.assertFalse(self.check(grown, (most + 1,) + (0,) * (grown[0] - 1), 12))

    def test_what_is_told_is_the_askers_own(self):
        for last in (3, 4):
            kept = bring_all(PLAIN, (4, 9, 0), last)
            bring_all(PLAIN, (4, 9, 0), last)[-1].clear()
            self.assertEqual(bring_all(PLAIN, (4, 9, 0), last), kept)


class Judged(unittest.TestCase):
    # by 4 all can be brought, by 3 one load too many stands at 0 and 1
    STORES = (4, 9, 0)
    PLAN = [(0, 0, 4), (0, 1, 4), (1, 1, 4), (2, 1, 4), (3, 1, 1)]

    def check(self, right, last, told, stores=STORES, net=PLAIN):
        self.assertIs(bring_right(net, stores, last, told), right, (net, stores, last, told))

    def test_plans(self):
        self.check(True, 4, ("plan", self.PLAN))
        self.check(True, 4, ("plan", [(0, 0, 1), (0, 1, 3), (1, 0, 3), (1, 1, 3), (2, 1, 3), (3, 1, 4)]))
        self.check(True, 12, ("plan", self.PLAN))
        self.check(True, 9, ("plan", [(0, 0, 3), (0, 1, 4), (0, 2, 1), (1, 1, 4), (2, 1, 4)]))
        self.check(False, 3, ("plan", self.PLAN))
        self.check(False, 4, ("plan", self.PLAN[:-1]))
        self.check(False, 4, ("plan", self.PLAN[::-1]))
        self.check(False, 4, ("plan", []))
        self.check(False, 4, ("plan", self.PLAN), (4, 8, 0))
        self.check(False, 4, ("plan", self.PLAN), (5, 9, 0))
        self.check(False, 4, ("plan", self.PLAN + [(3, 3, 1)]))
        self.check(False, 4, ("plan", self.PLAN + [(HUGE, HUGE, HUGE)]))

    def test_starts(self):
        # way 1 lets by four in each of hours 0, 1, 2
        self.check(True, 3, ("starts", (0, 1), [0, 0, 4]))
        self.check(False, 3, ("starts", (0,), [0, 2, 4]))
        self.check(False, 3, ("starts", (1,), [0, 0, 4]))
        self.check(True, 2, ("starts", (1,), [0, 0, 3]))
        self.check(True, 2, ("starts", (1,), [3, 0, 3]))
        self.check(True, 2, ("starts", (0,), [0, 2, 3]))
        self.check(True, 2, ("starts", (0,), [0, 1, 3]), (9, 9, 0))
        self.check(False, 4, ("starts", (0, 1), [0, 0, 5]))

    def test_starts_whose_stores_are_just_the_sum(self):
        self.check(False, 3, ("starts", (0, 1), [0, 0, 4]), (4, 8, 0))
        self.check(True, 3, ("starts", (0, 1), [0, 0, 4]), (5, 8, 0))
        self.check(False, 3, ("starts", (1,), [0, 0, 4]), (4, 12, 0))
        self.check(True, 3, ("starts", (1,), [0, 0, 4]), (4, 13, 0))
        self.check(False, 0, ("starts", (), [0, 0, 1]))
        self.check(False, 0, ("starts", (1,), [0, 0, 1]), (3, 0, 0))

    def test_what_is_no_set_of_starts(self):
        for starts in (
            (), (1, 0), (0, 0, 1), (0, 1, 1), (0, 1, 2), (2,), (0, 2), (0, 1, 3), (3,), (-1, 0, 1), (-3, 0, 1), (-2,),
            (0, 1, HUGE), (-HUGE, 0, 1), (-2, 0, 1),
        ):
            for closed in ([0, 0, 4], [0, 0, 0], [4, 4, 4]):
                self.check(False, 3, ("starts", starts, closed))
        self.check(True, 3, ("starts", (0, 1), [0, 0, 4]))

    def test_what_are_no_closed_hours_for_them(self):
        for closed in (
            [], [0], [0, 4], [0, 0, 4, 4], [0, 0, 3], [0, 0, 5], [0, 1, 4], [1, 0, 4], [0, -1, 4], [0, HUGE, 4],
            [0, 0, HUGE], [-HUGE, 0, 4], [0, 0, 0], [4, 4, 4],
        ):
            self.check(False, 3, ("starts", (0, 1), closed))

    def test_another_word(self):
        for word in ("", "Plan", "plan ", "plans", "by", "never", "starts"):
            self.check(False, 4, (word, self.PLAN))
        for word in ("", "Starts", "start", "starts ", "plan", "never"):
            self.check(False, 3, (word, (0, 1), [0, 0, 4]))

    def test_never_both(self):
        chance = random.Random(126)
        for net in some_nets(100):
            stores = some_stores(chance, net, 6)
            for last in (3, 8):
                told = bring_all(net, stores, last)
                for starts in all_starts(net):
                    closed = closed_from(net, starts, last)
                    short = most_from(net, starts, last) < sum(stores[place] for place in starts)
                    self.check(short, last, ("starts", starts, closed), stores, net)
                    self.assertFalse(short and told[0] == "plan")

    def test_nothing_that_is_handed_in_is_changed(self):
        told = ("starts", (0, 1), [0, 0, 4])
        self.check(True, 3, told)
        self.assertEqual(told, ("starts", (0, 1), [0, 0, 4]))


class Soonest(unittest.TestCase):
    def fits(self, net, stores, last):
        return all(
            sum(stores[place] for place in starts) <= most_from(net, starts, last) for starts in all_starts(net)
        )

    def check(self, net, stores, hour):
        told = soonest_all(net, stores)
        self.assertEqual(told, hour, (net, stores))
        self.assertTrue(told is None or only_whole(told))

    def test_none_at_all(self):
        for net in (PLAIN, BACK, GREAT, ODD, FORKED) + NEVER:
            self.check(net, (0,) * net[0], 0)

    def test_told(self):
        for store, hour in ((1, 3), (4, 3), (5, 4), (8, 4), (16, 6), (17, 7), (23, 7), (24, 8), (30, 8), (31, 9)):
            self.check(PLAIN, (store, 0, 0), hour)
        for stores, hour in (((0, 4, 0), 1), ((0, 5, 0), 2), ((4, 8, 0), 3), ((4, 9, 0), 4)):
            self.check(PLAIN, stores, hour)
        self.check(PLAIN, (0, STORE, 0), STORE // 4)
        self.check(FORKED, (4, 2, 2, 0, 0), 4)
        self.check((2, ((0, 1, G, 10 ** 6),)), (G, 0), 10 ** 6)
        self.check((2, ((0, 1, G, 10 ** 6),)), (G + 1, 0), 10 ** 6 + 1)

    def test_never(self):
        for net in NEVER:
            self.check(net, (1,) + (0,) * (net[0] - 1), None)
            self.check(net, (STORE,) * (net[0] - 1) + (0,), None)
        self.check(FORKED, (0, 0, 0, 1, 0), None)
        self.check(FORKED, (5, 5, 5, 1, 0), None)
        self.check(ODD, (1, 0, 0, 0, 0), 3)
        self.check(ODD, (0, 0, 0, 7, 0), 1)

    def test_far_hours(self):
        self.check((2, ((0, 1, 1, 1),)), (STORE, 0), STORE)
        self.check((2, ((0, 1, 1, 10 ** 6),)), (STORE, 0), STORE + 10 ** 6 - 1)
        # five places in a row, all of whose stores go over the last way
        row = (6, tuple((place, place + 1, 1, 1) for place in range(5)))
        self.check(row, (STORE,) * 5 + (0,), 5 * STORE)
        slow = (6, tuple((place, place + 1, 1, 10 ** 6) for place in range(5)))
        self.check(slow, (STORE,) * 5 + (0,), 5 * STORE + 10 ** 6 - 1)
        self.check(slow, (STORE, 0, 0, 0, 0, 0), STORE + 5 * 10 ** 6 - 1)

    def test_by_it_all_can_be_brought_by_the_hour_ahead_not(self):
        chance = random.Random(127)
        seen = {True: 0, False: 0}
        for net in list(some_nets(120)) + list(small_nets(80)) + [GREAT, BACK, FORKED]:
            for most in (3, 1000, STORE):
                stores = some_stores(chance, net, most)
                hour = soonest_all(net, stores)
                seen[hour is None] += 1
                if hour is None:
                    self.assertFalse(self.fits(net, stores, FAR))
                else:
                    self.assertTrue(only_whole(hour))
                    self.assertTrue(self.fits(net, stores, hour))
                    self.assertFalse(hour > 0 and self.fits(net, stores, hour - 1))
                for last in (0, 5, 12):
                    right = hour is not None and hour <= last
                    self.assertEqual(bring_all(net, stores, last)[0], "plan" if right else "starts")
        self.assertGreater(min(seen.values()), 100)

    def test_the_begin_alone_is_the_soonest_hour_of_the_net(self):
        for net in list(some_nets(80)) + [PLAIN, BACK, ODD]:
            for store in (1, 7, STORE):
                hour = soonest_all(net, (store,) + (0,) * (net[0] - 1))
                if hour is not None:
                    self.assertTrue(most_by(net, hour - 1) < store <= most_by(net, hour))


if __name__ == "__main__":
    unittest.main()
