import random
import unittest

from hourhaul.carried import brought_by, plan_clean, plan_right, sent_from, stands_at
from hourhaul.nets import turned_net
from hourhaul.plans import plan_till, turned_plan
from samples import PLAIN, fits_by_words, only_whole, sent, some_nets, some_plan, spoilt_plan, stood

# 0 -> 1 -> 2, beside it 0 -> 2; way 3 leads back to the begin, way 4 away from the end; way 5 has no room.
NET = (3, ((0, 1, 5, 2), (1, 2, 4, 1), (0, 2, 3, 7), (1, 0, 9, 1), (2, 1, 6, 3), (0, 1, 0, 1)))
CLEAN = [(0, 0, 4), (1, 0, 2), (1, 2, 3), (2, 1, 4), (5, 1, 2)]
# Two go on from the end and come to it again, one goes back to the begin.
AMID = [(0, 0, 5), (2, 1, 4), (3, 3, 1), (3, 4, 2), (6, 1, 2)]
HUGE = 10 ** 29


def right_by_words(net, last, plan):
    """3.1 word by word, hour by hour."""
    if not fits_by_words(net, last, plan):
        return False
    return all(stood(net, plan, place, hour) >= 0 for place in range(1, net[0]) for hour in range(last + 1))


def clean_by_words(net, last, plan):
    ends = [net[1][way][:2] for hour, way, loads in plan if way in range(len(net[1]))]
    return (
        right_by_words(net, last, plan)
        and all(stood(net, plan, place, last) == 0 for place in range(1, net[0] - 1))
        and all(start != net[0] - 1 and to != 0 for start, to in ends)
    )


class Right(unittest.TestCase):
    def check(self, right, net, last, plan):
        kept = list(plan)
        self.assertIs(plan_right(net, last, plan), right, (net, last, plan))
        self.assertEqual(plan, kept)

    def test_by_its_hour_and_later_not_sooner(self):
        for last, right in ((8, True), (9, True), (HUGE, True), (7, False), (0, False), (-1, False)):
            self.check(right, NET, last, CLEAN)
        self.check(True, NET, 7, AMID)
        self.check(False, NET, 6, AMID)
        self.check(False, NET, 2, [(1, 0, 1)])
        self.check(True, NET, 3, [(1, 0, 1)])

    def test_the_plan_without_triples(self):
        for last in (0, 1, HUGE):
            self.check(True, NET, last, [])
            self.check(True, (2, ()), last, [])

    def test_loads_at_the_room_and_above(self):
        self.check(True, NET, 2, [(0, 0, 5)])
        self.check(False, NET, 2, [(0, 0, 6)])
        self.check(False, NET, 2, [(0, 0, HUGE)])
        self.check(False, NET, 9, [(0, 5, 1)])
        self.check(True, NET, 3, [(0, 0, 5), (1, 0, 5)])
        self.check(True, (2, ((0, 1, 10 ** 9, 10 ** 6),)), 10 ** 6, [(0, 0, 10 ** 9)])
        self.check(False, (2, ((0, 1, 10 ** 9, 10 ** 6),)), 10 ** 6, [(0, 0, 10 ** 9 + 1)])

    def test_loads_of_nought_and_below(self):
        for loads in (0, -1, -HUGE):
            self.check(False, NET, 9, [(0, 0, loads)])
            self.check(False, NET, 9, [(0, 0, 4), (2, 1, loads)])
            self.check(False, NET, 9, [(0, 5, loads)])

    def test_an_hour_below_nought(self):
        self.check(True, NET, 9, [(0, 0, 1)])
        for hour in (-1, -2, -HUGE):
            self.check(False, NET, 9, [(hour, 0, 1)])

    def test_ways_that_are_not_there(self):
        for way in (6, 7, HUGE, -1, -6, -7, -HUGE):
            self.check(False, NET, 9, [(0, way, 1)])
        self.check(False, (2, ()), 9, [(0, 0, 1)])
        # way -2 isn't way 4, by which they might go on
        self.check(False, NET, 9, [(0, 0, 4), (2, 1, 4), (3, -2, 1)])

    def test_triples_that_do_not_rise(self):
        self.check(True, NET, 9, [(0, 0, 1), (0, 2, 1), (1, 0, 1)])
        self.check(False, NET, 9, [(0, 2, 1), (0, 0, 1), (1, 0, 1)])
        self.check(False, NET, 9, [(1, 0, 1), (0, 2, 1)])
        self.check(False, NET, 9, [(0, 0, 1), (1, 0, 1), (0, 2, 1)])

    def test_two_of_like_hour_and_way(self):
        self.check(False, NET, 9, [(0, 0, 1), (0, 0, 1)])
        self.check(False, NET, 9, [(0, 0, 1), (0, 0, 2)])
        self.check(False, NET, 9, [(0, 0, 2), (0, 0, 1)])
        self.check(True, NET, 9, [(0, 0, 1), (1, 0, 1)])

    def test_what_comes_in_an_hour_leaves_in_it_and_no_sooner(self):
        self.check(True, NET, 9, [(0, 0, 4), (2, 1, 4)])
        self.check(False, NET, 9, [(0, 0, 4), (1, 1, 4)])
        self.check(False, NET, 9, [(0, 0, 3), (2, 1, 4)])
        self.check(True, NET, 9, [(0, 0, 3), (1, 0, 1), (3, 1, 4)])
        self.check(False, NET, 9, [(0, 0, 3), (1, 0, 1), (2, 1, 4)])
        # short amid, though all is made good by the last hour
        self.check(False, NET, 20, [(0, 1, 2), (5, 0, 5)])

    def test_the_end_has_only_what_has_come(self):
        self.check(True, NET, 20, [(0, 2, 3), (7, 4, 3)])
        self.check(False, NET, 20, [(0, 2, 3), (6, 4, 3)])
        self.check(False, NET, 20, [(0, 2, 2), (7, 4, 3)])
        self.check(False, (2, ((1, 0, 1, 1),)), 5, [(0, 0, 1)])

    def test_the_begin_has_as_much_as_is_wanted(self):
        self.check(True, NET, 20, [(hour, 0, 5) for hour in range(9)])
        self.check(True, (2, ((0, 1, 9, 1),)), 1, [(0, 0, 9)])

    def test_against_the_words_of_the_document(self):
        chance = random.Random(7)
        right = wrong = clean = 0
        for net in some_nets(250):
            plan = some_plan(chance, net, 7)
            for tried in [plan] + [spoilt_plan(chance, plan) for _ in range(6) if plan]:
                for last in (6, 7):
                    told = right_by_words(net, last, tried)
                    self.check(told, net, last, tried)
                    cleaned = clean_by_words(net, last, tried)
                    self.assertIs(plan_clean(net, last, tried), cleaned, (net, last, tried))
                    right += told
                    wrong += not told
                    clean += cleaned and len(tried) > 1
        self.assertGreater(min(right, wrong), 300)
        self.assertGreater(clean, 15)


class Clean(unittest.TestCase):
    def check(self, clean, last, plan):
        kept = list(plan)
        self.assertTrue(plan_right(NET, 20, plan))
        self.assertIs(plan_clean(NET, last, plan), clean, plan)
        self.assertEqual(plan, kept)

    def test_by_its_hour_and_later(self):
        for last, clean in ((7, False), (8, True), (9, True), (HUGE, True)):
            self.check(clean, last, CLEAN)
        self.check(True, 0, [])

    def test_something_stands_amid(self):
        self.check(False, 9, [(0, 0, 4), (2, 1, 3)])
        self.check(False, 9, [(0, 0, 1)])
        self.check(True, 9, [(0, 0, 4), (2, 1, 3), (3, 1, 1)])

    def test_a_way_to_the_begin(self):
        self.check(False, 9, [(0, 0, 4), (2, 1, 3), (2, 3, 1)])

    def test_a_way_from_the_end(self):
        self.check(False, 20, [(0, 0, 4), (2, 1, 4), (3, 4, 4), (6, 1, 4)])

    def test_all_of_these_are_no_matter_of_places_beside(self):
        net = (4, ((0, 1, 5, 1), (1, 2, 5, 1), (2, 1, 5, 1), (2, 3, 5, 1), (1, 3, 5, 1)))
        plan = [(0, 0, 2), (1, 1, 2), (2, 2, 1), (2, 3, 1), (3, 4, 1)]
        self.assertIs(plan_clean(net, 4, plan), True)
        self.assertIs(plan_clean(net, 4, plan[:-1]), False)
        self.assertIs(plan_clean(net, 4, [(0, 0, 2), (1, 1, 2), (2, 3, 1)]), False)

    def test_what_is_not_right_is_not_clean(self):
        for plan in (
            [(0, 0, 6), (2, 1, 6)], [(0, 0, 4), (1, 1, 4)], [(2, 1, 4), (0, 0, 4)], [(0, 6, 1)], [(0, -1, 1)],
            [(0, 2, 0)], [(-1, 2, 1)], [(0, HUGE, 1)],
        ):
            self.assertIs(plan_clean(NET, 20, plan), False, plan)


class Stands(unittest.TestCase):
    def test_amid(self):
        for hour, there in (
            (-1, 0), (0, 0), (1, 0), (2, 1), (3, 0), (4, 0), (5, 0), (6, 0), (7, 0), (HUGE, 0),
        ):
            self.assertEqual(stands_at(NET, AMID, 1, hour), there, hour)
        for hour, there in ((-1, 0), (1, 0), (2, 0), (3, 2), (4, 2), (5, 0), (HUGE, 0)):
            self.assertEqual(stands_at(NET, CLEAN, 1, hour), there, hour)

    def test_at_the_end_and_brought_alike(self):
        for hour, there in ((-1, 0), (0, 0), (2, 0), (3, 2), (4, 2), (6, 2), (7, 4), (8, 4), (HUGE, 4)):
            self.assertEqual(stands_at(NET, AMID, 2, hour), there, hour)
            self.assertEqual(brought_by(NET, AMID, hour), there, hour)
        for hour, there in ((-1, 0), (2, 0), (3, 4), (5, 4), (6, 6), (7, 6), (8, 9), (9, 9), (HUGE, 9)):
            self.assertEqual(brought_by(NET, CLEAN, hour), there, hour)

    def test_what_comes_and_goes_in_one_hour_does_not_stand(self):
        plan = [(0, 0, 4), (2, 1, 4), (3, 4, 4)]
        self.assertEqual([stands_at(NET, plan, 1, hour) for hour in range(-1, 8)], [0, 0, 0, 0, 0, 0, 0, 4, 4])
        self.assertEqual([brought_by(NET, plan, hour) for hour in range(-1, 8)], [0] * 9)

    def test_sent(self):
        for hour, left in ((-1, 9), (0, 9), (1, 5), (2, 0), (3, 0), (HUGE, 0)):
            self.assertEqual(sent_from(NET, CLEAN, hour), left, hour)

    def test_sent_less_what_comes_back(self):
        # five leave in hour 0, one comes back in hour 4
        for hour, left in ((-1, 4), (0, 4), (1, -1), (3, -1), (4, -1), (5, 0), (HUGE, 0)):
            self.assertEqual(sent_from(NET, AMID, hour), left, hour)
        plan = [(0, 0, 5), (2, 3, 5), (3, 2, 3)]
        for hour, left in ((-1, 3), (0, 3), (1, -2), (2, -2), (3, -2), (4, 0)):
            self.assertEqual(sent_from(NET, plan, hour), left, hour)

    def test_nothing_of_the_plan_without_triples(self):
        for hour in (-1, 0, 1, HUGE):
            for net in (NET, (2, ())):
                self.assertEqual(stands_at(net, [], 1, hour), 0)
                self.assertEqual(brought_by(net, [], hour), 0)
                self.assertEqual(sent_from(net, [], hour), 0)

    def test_ways_that_are_alike_count_each(self):
        net = (2, ((0, 1, 2, 1), (0, 1, 2, 1)))
        plan = [(0, 0, 2), (0, 1, 1), (1, 0, 1)]
        self.assertEqual([brought_by(net, plan, hour) for hour in range(4)], [0, 3, 4, 4])
        self.assertEqual([sent_from(net, plan, hour) for hour in range(4)], [4, 1, 0, 0])

    def test_against_the_words_of_the_document(self):
        chance = random.Random(8)
        for net in some_nets(120):
            plan = some_plan(chance, net, 7)
            kept = list(plan)
            for hour in range(-1, 10):
                for place in range(1, net[0]):
                    self.assertEqual(stands_at(net, plan, place, hour), stood(net, plan, place, hour))
                self.assertEqual(brought_by(net, plan, hour), stood(net, plan, net[0] - 1, hour))
                self.assertEqual(sent_from(net, plan, hour), sent(net, plan, hour))
                told = [sent_from(net, plan, hour), brought_by(net, plan, hour), stands_at(net, plan, 1, hour)]
                self.assertTrue(only_whole(told))
            self.assertEqual(plan, kept)


class TillAndTurned(unittest.TestCase):
    def test_a_right_plan_till_an_hour_is_right_by_it(self):
        chance = random.Random(9)
        for net in some_nets(120):
            plan = some_plan(chance, net, 7)
            for hour in range(-1, 8):
                cut = plan_till(net, plan, hour)
                self.assertIs(plan_right(net, hour, cut), True)

    def test_a_clean_plan_turned_about_is_clean(self):
        net = turned_net(PLAIN)
        for last in (8, 9, 12, 10 ** 18):
            plan = turned_plan(PLAIN, last, CLEAN)
            self.assertIs(plan_clean(net, last, plan), True)
            for hour in (-1, 0, 1, 2, 3, 5, 6, 7, 8, last - 1, last):
                self.assertEqual(brought_by(net, plan, hour), sent_from(PLAIN, CLEAN, last - hour))
                self.assertEqual(sent_from(net, plan, hour), brought_by(PLAIN, CLEAN, last - hour))


if __name__ == "__main__":
    unittest.main()
