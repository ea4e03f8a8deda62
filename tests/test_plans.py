import unittest

from hourhaul.nets import turned_net
from hourhaul.plans import laid_plans, later_plan, plan_till, turned_plan
from samples import PLAIN, sent, stood

# Clean by 9 in PLAIN: nothing stands at place 1 then.
CLEAN = [(0, 0, 4), (1, 0, 2), (1, 2, 3), (2, 1, 4), (5, 1, 2)]


class Laid(unittest.TestCase):
    ONE = [(0, 0, 2), (3, 1, 5)]
    OTHER = [(0, 0, 1), (0, 1, 7), (3, 0, 4), (10 ** 18, 2, 1)]
    BOTH = [(0, 0, 3), (0, 1, 7), (3, 0, 4), (3, 1, 5), (10 ** 18, 2, 1)]

    def test_loads_of_like_hour_and_way_are_added_either_way_about(self):
        self.assertEqual(laid_plans(self.ONE, self.OTHER), self.BOTH)
        self.assertEqual(laid_plans(self.OTHER, self.ONE), self.BOTH)

    def test_with_the_empty_plan(self):
        self.assertEqual(laid_plans(self.ONE, []), self.ONE)
        self.assertEqual(laid_plans([], self.ONE), self.ONE)
        self.assertEqual(laid_plans([], []), [])

    def test_with_itself(self):
        self.assertEqual(laid_plans(self.ONE, self.ONE), [(0, 0, 4), (3, 1, 10)])

    def test_great_loads(self):
        self.assertEqual(laid_plans([(0, 0, 10 ** 29)], [(0, 0, 1)]), [(0, 0, 10 ** 29 + 1)])


class Later(unittest.TestCase):
    def test_put_off(self):
        self.assertEqual(later_plan(CLEAN, 3), [(3, 0, 4), (4, 0, 2), (4, 2, 3), (5, 1, 4), (8, 1, 2)])
        self.assertEqual(later_plan(CLEAN, 0), CLEAN)
        self.assertEqual(later_plan([], 5), [])
        self.assertEqual(later_plan([(0, 1, 1)], 10 ** 18), [(10 ** 18, 1, 1)])

    def test_twice(self):
        self.assertEqual(later_plan(later_plan(CLEAN, 2), 3), later_plan(CLEAN, 5))


class Till(unittest.TestCase):
    def test_triples_that_come_out_by_then(self):
        for hour, left in (
            (-1, []), (0, []), (1, []), (2, CLEAN[:1]), (3, [(0, 0, 4), (1, 0, 2), (2, 1, 4)]),
            (5, [(0, 0, 4), (1, 0, 2), (2, 1, 4)]), (6, [(0, 0, 4), (1, 0, 2), (2, 1, 4), (5, 1, 2)]),
            (7, [(0, 0, 4), (1, 0, 2), (2, 1, 4), (5, 1, 2)]), (8, CLEAN), (9, CLEAN), (10 ** 18, CLEAN),
        ):
            with self.subTest(hour=hour):
                self.assertEqual(plan_till(PLAIN, CLEAN, hour), left)

    def test_the_empty_plan(self):
        self.assertEqual(plan_till(PLAIN, [], -1), [])
        self.assertEqual(plan_till((2, ()), [], 3), [])

    def test_what_is_brought_by_then_stays(self):
        for hour in range(-1, 10):
            cut = plan_till(PLAIN, CLEAN, hour)
            self.assertEqual(stood(PLAIN, cut, 2, hour), stood(PLAIN, CLEAN, 2, hour))
            self.assertTrue(all(stood(PLAIN, cut, 1, at) >= 0 for at in range(10)))


class Turned(unittest.TestCase):
    def test_rising(self):
        self.assertEqual(turned_plan(PLAIN, 9, CLEAN), [(1, 2, 3), (3, 1, 2), (6, 0, 2), (6, 1, 4), (7, 0, 4)])
        self.assertEqual(turned_plan(PLAIN, 8, CLEAN), [(0, 2, 3), (2, 1, 2), (5, 0, 2), (5, 1, 4), (6, 0, 4)])
        self.assertEqual(turned_plan(PLAIN, 4, []), [])

    def test_twice_is_the_plan(self):
        for last in (8, 9, 12, 10 ** 18):
            once = turned_plan(PLAIN, last, CLEAN)
            self.assertEqual(once, sorted(once))
            self.assertEqual(turned_plan(turned_net(PLAIN), last, once), CLEAN)

    def test_brought_and_sent_change_places(self):
        for last in (8, 9, 11):
            net, plan = turned_net(PLAIN), turned_plan(PLAIN, last, CLEAN)
            for hour in range(last + 1):
                self.assertEqual(stood(net, plan, 2, hour), sent(PLAIN, CLEAN, last - hour))
                self.assertEqual(sent(net, plan, hour), stood(PLAIN, CLEAN, 2, last - hour))
                self.assertGreaterEqual(stood(net, plan, 1, hour), 0)
            self.assertEqual(stood(net, plan, 1, last), 0)


class Rising(unittest.TestCase):
    def test_whatever_order_triples_are_handed_in(self):
        plan = list(reversed(CLEAN))
        self.assertEqual(laid_plans(plan, []), CLEAN)
        self.assertEqual(later_plan(plan, 3), later_plan(CLEAN, 3))
        self.assertEqual(plan_till(PLAIN, plan, 6), plan_till(PLAIN, CLEAN, 6))
        self.assertEqual(turned_plan(PLAIN, 9, plan), turned_plan(PLAIN, 9, CLEAN))


class HandedIn(unittest.TestCase):
    ASKED = (
        lambda plan: laid_plans(plan, [(0, 0, 1), (4, 1, 1)]), lambda plan: laid_plans([(0, 0, 1), (4, 1, 1)], plan),
        lambda plan: laid_plans(plan, []), lambda plan: laid_plans([], plan), lambda plan: laid_plans(plan, plan),
        lambda plan: later_plan(plan, 0), lambda plan: later_plan(plan, 2),
        lambda plan: plan_till(PLAIN, plan, 3), lambda plan: plan_till(PLAIN, plan, 99),
        lambda plan: turned_plan(PLAIN, 9, plan),
    )

    def test_stays_and_the_told_list_is_the_askers_own(self):
        for number, ask in enumerate(self.ASKED):
            with self.subTest(number):
                plan = list(CLEAN)
                told = ask(plan)
                kept = list(told)
                self.assertEqual(plan, CLEAN)
                self.assertIs(type(told), list)
                self.assertTrue(all(type(triple) is tuple for triple in told))
                told.append((99, 0, 1))
                told[0] = None
                self.assertEqual(plan, CLEAN)
                self.assertEqual(ask(plan), kept)

    def test_changing_what_was_handed_in_changes_nothing_told(self):
        for number, ask in enumerate(self.ASKED):
            with self.subTest(number):
                plan = list(CLEAN)
                told = ask(plan)
                kept = list(told)
                plan.clear()
                self.assertEqual(told, kept)


if __name__ == "__main__":
    unittest.main()
