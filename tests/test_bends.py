import unittest

from hourhaul.bends import bends_of, least_hours
from hourhaul.errors import HaulError, TooMuch
from samples import PLAIN, least_hours_of, only_whole, sides_of, small_nets, some_nets

G = 10 ** 9
HUGE = 10 ** 29
# The walk across is 3 long; all that comes beyond it goes back over way 1.
BACK = (4, ((0, 1, 2, 1), (1, 2, 2, 1), (2, 3, 2, 1), (0, 2, 2, 4), (1, 3, 2, 5)))


def hours_by(bends, rate):
    rows = [length for length, loads in bends for _ in range(loads)]
    return sum(rows[:rate])


class Bends(unittest.TestCase):
    def check(self, net):
        bends = bends_of(net)
        self.assertIs(type(bends), list)
        self.assertTrue(all(type(bend) is tuple and len(bend) == 2 for bend in bends))
        self.assertTrue(only_whole(bends))
        lengths = [length for length, loads in bends]
        self.assertEqual(lengths, sorted(set(lengths)))
        self.assertTrue(all(loads >= 1 for length, loads in bends))
        self.assertEqual(bends_of(net), bends)
        return bends

    def test_told(self):
        for net, bends in (
            ((2, ()), []), ((6, ()), []), ((2, ((0, 1, 0, 1),)), []), ((2, ((1, 0, 5, 1),)), []),
            ((2, ((0, 1, 7, 3),)), [(3, 7)]), (PLAIN, [(3, 4), (7, 3)]), (BACK, [(3, 2), (8, 2)]),
            ((2, ((0, 1, 2, 3), (0, 1, 1, 2), (0, 1, 4, 3), (1, 0, 9, 1))), [(2, 1), (3, 6)]),
            ((3, ((0, 1, 5, 2), (1, 2, 4, 1), (0, 1, 5, 2), (1, 2, 4, 1))), [(3, 8)]),
            ((3, ((0, 1, 5, 2), (1, 2, 4, 1), (1, 2, 3, 9))), [(3, 4), (11, 1)]),
        ):
            self.assertEqual(self.check(net), bends)

    def test_small_nets_against_all_their_streams(self):
        several = 0
        for net in small_nets(300):
            bends = self.check(net)
            least = least_hours_of(net)
            self.assertEqual(sum(loads for length, loads in bends), max(least))
            self.assertEqual({rate: hours_by(bends, rate) for rate in least}, least)
            several += len(bends) > 1
        self.assertGreater(several, 100)

    def test_all_loads_are_the_greatest_rate(self):
        for net in some_nets(300):
            rooms = [sum(w[2] for w in net[1] if w[0] in side and w[1] not in side) for side in sides_of(net)]
            self.assertEqual(sum(loads for length, loads in self.check(net)), min(rooms))

    def test_great_rooms_and_hours(self):
        self.assertEqual(self.check((2, ((0, 1, G, 10 ** 6),) * 12)), [(10 ** 6, 12 * G)])
        self.assertEqual(
            self.check((4, ((0, 1, G, 1), (1, 2, 1, 1), (2, 3, G, 1), (0, 2, G, 4), (1, 3, G, 5)))),
            [(3, 1), (5, G - 1), (6, G - 1), (8, 1)],
        )
        for net in some_nets(100):
            ways = tuple((start, to, room * G // 5, hours * 250_000) for start, to, room, hours in net[1])
            grown = [(length * 250_000, loads * G // 5) for length, loads in self.check(net)]
            self.assertEqual(self.check((net[0], ways)), grown)

    def test_the_told_list_is_the_askers_own(self):
        bends_of(PLAIN).clear()
        self.assertEqual(bends_of(PLAIN), [(3, 4), (7, 3)])


class LeastHours(unittest.TestCase):
    def test_at_the_bends_edges_and_beside(self):
        for net, hours in (
            (PLAIN, {0: 0, 1: 3, 3: 9, 4: 12, 5: 19, 6: 26, 7: 33}),
            (BACK, {0: 0, 1: 3, 2: 6, 3: 14, 4: 22}), ((2, ()), {0: 0}), ((2, ((0, 1, 0, 1),)), {0: 0}),
            ((2, ((0, 1, G, 10 ** 6),)), {0: 0, 1: 10 ** 6, G - 1: (G - 1) * 10 ** 6, G: G * 10 ** 6}),
        ):
            for rate, least in hours.items():
                self.assertEqual(least_hours(net, rate), least)
                self.assertTrue(only_whole(least_hours(net, rate)))

    def test_too_much(self):
        for net, rate in (
            (PLAIN, 8), (PLAIN, 9), (PLAIN, HUGE), (BACK, 5), ((2, ()), 1), ((2, ((0, 1, 0, 1),)), 1),
            ((2, ((0, 1, G, 10 ** 6),)), G + 1),
        ):
            with self.assertRaises(TooMuch) as caught:
                least_hours(net, rate)
            self.assertIsInstance(caught.exception, HaulError)

    def test_small_nets_against_all_their_streams(self):
        for net in small_nets(300):
            least = least_hours_of(net)
            for rate in range(max(least) + 1):
                self.assertEqual(least_hours(net, rate), least[rate])
            self.assertRaises(TooMuch, least_hours, net, max(least) + 1)


if __name__ == "__main__":
    unittest.main()
