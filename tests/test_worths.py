import unittest
from itertools import product

from hourhaul.closed import closed_hours, closed_sum, most_by
from hourhaul.errors import HaulError, NoWay
from hourhaul.worths import gap_of, room_loss, room_worth
from samples import (
    BACK, FAR, G, GREAT, HUGE, NEVER, ODD, PLAIN, grown_net, most_by_hours, only_whole, small_nets, some_nets,
    tiny_nets,
)


def with_other_room(net, number, room):
    ways = list(net[1])
    ways[number] = ways[number][:2] + (room,) + ways[number][3:]
    return (net[0], tuple(ways))


class WorthAndLoss(unittest.TestCase):
    def check(self, net, last, number, most=most_by):
        worth, loss = room_worth(net, last, number), room_loss(net, last, number)
        self.assertTrue(only_whole([worth, loss]))
        room = net[1][number][2]
        self.assertEqual(worth, most(with_other_room(net, number, room + 1), last) - most(net, last))
        if room == 0:
            self.assertEqual(loss, 0)
        else:
            self.assertEqual(loss, most(net, last) - most(with_other_room(net, number, room - 1), last))
        return worth, loss

    def test_told(self):
        # way 1 lets four by in each of hours 2 to 7, way 0 five in hours 0 to 5, way 2 three in hours 0 and 1
        self.assertEqual([self.check(PLAIN, 8, number) for number in range(3)], [(0, 0), (6, 6), (2, 2)])
        self.assertEqual([self.check(PLAIN, 2, number) for number in range(3)], [(0, 0)] * 3)
        # two ways one behind the other: a room more of one is worth nothing, a room less loses
        row = (3, ((0, 1, 4, 1), (1, 2, 4, 1)))
        self.assertEqual([self.check(row, 5, number) for number in range(2)], [(0, 4), (0, 4)])

    def test_a_room_of_nought_and_of_a_thousand_million(self):
        self.assertEqual(self.check((2, ((0, 1, 0, 2),)), 7, 0), (6, 0))
        self.assertEqual(self.check((2, ((0, 1, 0, 2),)), 1, 0), (0, 0))
        self.assertEqual(self.check((2, ((0, 1, 1, 2),)), 7, 0), (6, 6))
        self.assertEqual(self.check((2, ((0, 1, G, 2),)), 7, 0), (6, 6))
        self.assertEqual(self.check((2, ((0, 1, G, 1),)), FAR, 0), (FAR, FAR))

    def test_each_way_of_small_nets(self):
        for net in list(small_nets(60)) + list(some_nets(60)) + [PLAIN, BACK, GREAT, ODD] + list(NEVER):
            for number in range(len(net[1])):
                for last in (0, 3, 7, 12, FAR - 1, FAR):
                    self.check(net, last, number)
        for net in some_nets(20):
            for number in range(len(net[1])):
                self.check(net, 7, number, most_by_hours)
                self.check(grown_net(net, 10 ** 5), 9 * 10 ** 5, number)


class Gaps(unittest.TestCase):
    def check(self, net, last, closed):
        """The gap of each way lies between its worth and, where it has a room, its loss."""
        self.assertEqual(closed_sum(net, last, closed), most_by(net, last))
        unlike = 0
        for number, (start, to, room, hours) in enumerate(net[1]):
            kept = list(closed)
            gap = gap_of(net, closed, number)
            self.assertTrue(only_whole(gap))
            self.assertEqual(closed, kept)
            self.assertEqual(gap, max(0, closed[to] - closed[start] - hours))
            self.assertGreaterEqual(gap, room_worth(net, last, number))
            if room > 0:
                self.assertLessEqual(gap, room_loss(net, last, number))
            unlike += room_worth(net, last, number) != room_loss(net, last, number)
        return unlike

    def test_told(self):
        self.assertEqual([gap_of(PLAIN, [0, 2, 9], number) for number in range(3)], [0, 6, 2])
        self.assertEqual([gap_of(PLAIN, [0, 0, 9], number) for number in range(3)], [0, 8, 2])
        self.assertEqual([gap_of(PLAIN, [0, 9, 9], number) for number in range(3)], [7, 0, 2])
        self.assertEqual(gap_of((2, ((1, 0, 5, 1), (0, 1, 5, 10 ** 6))), [0, FAR + 1], 0), 0)
        self.assertEqual(gap_of((2, ((1, 0, 5, 1), (0, 1, 5, 10 ** 6))), [0, FAR + 1], 1), FAR + 1 - 10 ** 6)

    def test_told_closed_hours(self):
        unlike = 0
        for net in list(small_nets(60)) + list(some_nets(60)) + [PLAIN, BACK, GREAT, ODD] + list(NEVER):
            for last in (0, 4, 9, FAR):
                unlike += self.check(net, last, closed_hours(net, last))
        self.assertGreater(unlike, 50)

    def test_all_closed_hours_of_the_least_sum(self):
        for net in tiny_nets(60):
            for last in (2, 4):
                for amid in product(range(last + 2), repeat=net[0] - 2):
                    closed = [0, *amid, last + 1]
                    if closed_sum(net, last, closed) == most_by(net, last):
                        self.check(net, last, closed)


class Refused(unittest.TestCase):
    def test_numbers_that_no_way_has(self):
        for net in (PLAIN, (2, ()), GREAT):
            count = len(net[1])
            for number in (count, count + 1, -1, -count, -count - 1, 12, HUGE, -HUGE):
                if not 0 <= number < count:
                    for ask in (
                        lambda: room_worth(net, 8, number), lambda: room_loss(net, 8, number),
                        lambda: gap_of(net, [0] * (net[0] - 1) + [9], number),
                    ):
                        with self.assertRaises(NoWay) as caught:
                            ask()
                        self.assertIsInstance(caught.exception, HaulError)


if __name__ == "__main__":
    unittest.main()
