import random
import unittest

from hourhaul.always import always_plan, always_right
from hourhaul.carried import brought_by, plan_clean, plan_right
from hourhaul.chains import chains_plan
from hourhaul.closed import most_by
from hourhaul.hauls import best_rounds, rounds_plan
from hourhaul.nets import turned_net
from hourhaul.plans import turned_plan
from samples import (
    BACK, GREAT, HUGE, NEVER, ODD, PLAIN, grown_net, most_by_hours, only_whole, sent, small_nets, some_nets,
    spoilt_plan, stood,
)

ALL = (PLAIN, BACK, GREAT, ODD) + NEVER


def best_by_words(net, last, plan):
    """8.3, of a clean plan."""
    return all(
        stood(net, plan, net[0] - 1, hour) == sent(net, plan, last - hour) == most_by(net, hour)
        for hour in range(last + 1)
    )


def plan_by_other_numbers(net, last):
    """A plan always best that goes other ways, where some are alike: found with the ways numbered backwards."""
    backwards = always_plan((net[0], net[1][::-1]), last)
    return sorted((hour, len(net[1]) - 1 - way, loads) for hour, way, loads in backwards)


class Told(unittest.TestCase):
    def check(self, net, last):
        plan = always_plan(net, last)
        self.assertIs(type(plan), list)
        self.assertTrue(all(type(triple) is tuple and len(triple) == 3 for triple in plan))
        self.assertTrue(only_whole(plan))
        self.assertIs(plan_clean(net, last, plan), True)
        for hour in range(last + 1):
            most = most_by_hours(net, hour)
            self.assertEqual(stood(net, plan, net[0] - 1, hour), most, (net, last, hour))
            self.assertEqual(sent(net, plan, last - hour), most, (net, last, hour))
        self.assertIs(always_right(net, last, plan), True)
        self.assertEqual(always_plan(net, last), plan)
        return plan

    def test_told(self):
        for last in range(3):
            self.assertEqual(self.check(PLAIN, last), [])
        self.assertEqual(self.check(PLAIN, 3), [(0, 0, 4), (2, 1, 4)])
        for net in NEVER:
            self.assertEqual(self.check(net, 12), [])

    def test_by_each_hour(self):
        for net in list(small_nets(120)) + list(some_nets(100)) + list(ALL):
            for last in range(13):
                self.check(net, last)

    def test_great_rooms(self):
        for net in some_nets(40):
            grown = grown_net(net, 1)
            for last in (0, 6, 12):
                self.check(grown, last)

    def test_turned_about_it_is_always_best_too(self):
        for net in list(small_nets(60)) + list(ALL):
            for last in (0, 5, 9, 12):
                self.assertIs(always_right(turned_net(net), last, turned_plan(net, last, always_plan(net, last))), True)

    def test_the_told_list_is_the_askers_own(self):
        always_plan(PLAIN, 3).clear()
        self.assertEqual(always_plan(PLAIN, 3), [(0, 0, 4), (2, 1, 4)])


class Judged(unittest.TestCase):
    def check(self, right, net, last, plan):
        kept = list(plan)
        self.assertIs(always_right(net, last, plan), right, (net, last, plan))
        self.assertEqual(plan, kept)

    def test_another_one(self):
        net = (3, ((0, 1, 4, 1), (1, 2, 2, 1), (1, 2, 3, 1)))
        for parts in ((2, 2), (1, 3)):
            plan = []
            for hour in range(3):
                plan += [(hour, 0, 4), (hour + 1, 1, parts[0]), (hour + 1, 2, parts[1])]
            self.check(True, net, 4, sorted(plan))
        self.check(True, PLAIN, 3, [(0, 0, 4), (2, 1, 4)])
        for last in range(3):
            self.check(True, PLAIN, last, [])
        self.check(True, (2, ()), 0, [])
        one, other = ((0, True), (1, True)), ((0, True), (2, True))
        self.check(True, net, 12, chains_plan(net, 12, [(one, 2), (other, 2)]))
        self.check(True, net, 12, chains_plan(net, 12, [(other, 3), (one, 1)]))

    def test_a_clean_plan_that_brings_the_most_only_by_the_last_hour(self):
        plan = rounds_plan(BACK, 8, best_rounds(BACK, 8))
        self.assertTrue(plan_clean(BACK, 8, plan))
        self.assertEqual(brought_by(BACK, plan, 8), most_by(BACK, 8))
        self.check(False, BACK, 8, plan)

    def test_early_but_not_late_sent_and_late_sent_but_not_early(self):
        narrow = (3, ((0, 1, 2, 1), (1, 2, 1, 1)))
        early = [(0, 0, 2), (1, 1, 1), (2, 1, 1)]
        self.assertTrue(plan_clean(narrow, 3, early))
        self.assertEqual([brought_by(narrow, early, hour) for hour in range(4)], [0, 0, 1, 2])
        self.check(False, narrow, 3, early)
        self.check(True, narrow, 3, [(0, 0, 1), (1, 0, 1), (1, 1, 1), (2, 1, 1)])
        late = turned_plan(narrow, 3, early)
        self.assertTrue(plan_clean(turned_net(narrow), 3, late))
        self.check(False, turned_net(narrow), 3, late)

    def test_right_and_not_clean(self):
        for more in ([(0, 0, 3), (1, 2, 1)], [(0, 0, 3)]):
            plan = [triple for triple in always_plan(ODD, 5) if triple[:2] not in [some[:2] for some in more]]
            plan = sorted(plan + more)
            self.assertTrue(plan_right(ODD, 5, plan))
            self.assertFalse(plan_clean(ODD, 5, plan))
            self.check(False, ODD, 5, plan)
        # a load stands amid, though all else is as it should be
        net = (4, ((0, 1, 1, 1), (1, 3, 1, 1), (0, 2, 5, 1), (2, 0, 5, 1)))
        plan = [(0, 0, 1), (1, 1, 1)]
        self.check(True, net, 2, plan)
        self.check(False, net, 2, [(0, 0, 1), (0, 2, 1), (1, 1, 1)])
        self.check(False, net, 2, [(0, 0, 1), (0, 2, 1), (1, 1, 1), (1, 3, 1)])

    def test_a_load_less(self):
        self.check(False, PLAIN, 3, [(0, 0, 3), (2, 1, 3)])
        self.check(False, PLAIN, 3, [])
        self.check(False, PLAIN, 4, [(0, 0, 4), (1, 0, 4), (2, 1, 4), (3, 1, 3)])
        self.check(False, PLAIN, 4, [(0, 0, 4), (1, 0, 3), (2, 1, 4), (3, 1, 3)])
        self.check(True, PLAIN, 4, [(0, 0, 4), (1, 0, 4), (2, 1, 4), (3, 1, 4)])

    def test_triples_that_do_not_rise_and_wrong_numbers(self):
        plan = [(0, 0, 4), (2, 1, 4)]
        for other in (
            plan[::-1], plan + plan[1:], plan[:1] + plan, [(0, 0, 4), (2, -2, 4)], [(0, 0, 4), (2, HUGE, 4)],
            [(0, 0, 4), (3, 1, 4)], [(-1, 0, 4), (2, 1, 4)], [(0, 0, 5), (2, 1, 5)], [(0, 0, HUGE), (2, 1, HUGE)],
            plan + [(2, 2, 0)], plan + [(3, 0, -1)], [(0, 0, 4), (1, 1, 4)], [(HUGE, 0, 4)],
        ):
            self.check(False, PLAIN, 3, other)

    def test_of_another_hour(self):
        plan = always_plan(PLAIN, 5)
        for last in (0, 3, 4, 6, 12):
            self.check(False, PLAIN, last, plan)

    def test_against_the_words_of_the_document(self):
        chance = random.Random(83)
        seen = {True: 0, False: 0}
        for net in small_nets(120):
            for last in (4, 8, 12):
                plan = always_plan(net, last)
                other = plan_by_other_numbers(net, last)
                self.check(True, net, last, other)
                rounds = rounds_plan(net, last, best_rounds(net, last))
                for tried in [plan, other, rounds] + [spoilt_plan(chance, plan) for _ in range(3) if plan]:
                    right = plan_clean(net, last, tried) and best_by_words(net, last, tried)
                    self.check(right, net, last, tried)
                    seen[right] += tried != plan
        self.assertGreater(seen[True], 10)
        self.assertGreater(seen[False], 300)


if __name__ == "__main__":
    unittest.main()
