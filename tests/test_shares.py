import random
import unittest
from itertools import permutations

from hourhaul.shares import order_shares, shares_stores
from hourhaul.starts import bring_all, most_from, soonest_all
from samples import BACK, FAR, G, GREAT, NEVER, ODD, PLAIN, only_whole, small_nets, some_nets


class Shares(unittest.TestCase):
    def check(self, net, order, last):
        shares, stores = order_shares(net, order, last), shares_stores(net, order, last)
        self.assertIs(type(shares), list)
        self.assertIs(type(stores), tuple)
        self.assertTrue(only_whole([shares, stores]))
        self.assertEqual(len(shares), len(order))
        for count in range(len(order) + 1):
            most = most_from(net, tuple(sorted(order[:count])), last)
            self.assertEqual(sum(shares[:count]), most, (net, order, last))
        self.assertEqual((len(stores), stores[-1]), (net[0], 0))
        self.assertEqual([stores[place] for place in order], shares)
        return shares, stores

    def test_told(self):
        # from place 1 four come in each of hours 1 to 8, from the begin three more in each of hours 7 and 8
        self.assertEqual(self.check(PLAIN, (0, 1), 8), ([30, 8], (30, 8, 0)))
        self.assertEqual(self.check(PLAIN, (1, 0), 8), ([32, 6], (6, 32, 0)))
        self.assertEqual(self.check(PLAIN, (1, 0), 0), ([0, 0], (0, 0, 0)))
        self.assertEqual(self.check((2, ((0, 1, 5, 3),)), (0,), 4), ([10], (10, 0)))
        self.assertEqual(self.check((2, ()), (0,), 4), ([0], (0, 0)))

    def test_every_order(self):
        for net in list(small_nets(12)) + list(some_nets(12)) + [PLAIN, BACK, GREAT, ODD] + list(NEVER):
            for order in permutations(range(net[0] - 1)):
                for last in (0, 5, 9):
                    self.check(net, order, last)

    def test_far_hours(self):
        self.assertEqual(self.check((2, ((0, 1, G, 1),)), (0,), FAR), ([G * FAR], (G * FAR, 0)))
        chance = random.Random(131)
        for net in list(some_nets(60)) + [PLAIN, BACK, GREAT, ODD]:
            for last in (FAR - 1, FAR):
                order = tuple(chance.sample(range(net[0] - 1), net[0] - 1))
                self.check(net, order, last)

    def test_stores_that_are_the_shares_can_all_be_brought_and_one_load_more_not(self):
        chance = random.Random(132)
        more = 0
        for net in list(small_nets(60)) + list(some_nets(60)) + [PLAIN, BACK, GREAT, ODD] + list(NEVER):
            for last in (0, 4, 7, 12):
                order = tuple(chance.sample(range(net[0] - 1), net[0] - 1))
                stores = self.check(net, order, last)[1]
                self.assertEqual(bring_all(net, stores, last)[0], "plan", (net, order, last))
                self.assertLessEqual(soonest_all(net, stores), last)
                for place in range(net[0] - 1):
                    larger = stores[:place] + (stores[place] + 1,) + stores[place + 1:]
                    self.assertEqual(bring_all(net, larger, last)[0], "starts", (net, order, last, place))
                    more += sum(stores) > 0
        self.assertGreater(more, 300)

    def test_asked_again_it_is_told_alike(self):
        order_shares(PLAIN, (0, 1), 8).clear()
        self.assertEqual(order_shares(PLAIN, (0, 1), 8), [30, 8])


if __name__ == "__main__":
    unittest.main()
